package rails_test

import (
	"slices"
	"strings"
	"testing"

	"rails/api"
	"rails/rails"
)

func testSafe(t *testing.T, layout, at string, safe bool, e api.Errno) {
	t.Helper()
	gotSafe, gotE := rails.Safe(layout, at)
	if gotSafe != safe || gotE != e {
		t.Errorf("P4: Safe(%.90q, %.20q) = %v, %d, want %v, %d", layout, at, gotSafe, gotE, safe, e)
	}
}

func testOrder(t *testing.T, layout, at string, orders []string, e api.Errno) {
	t.Helper()
	gotOrder, gotE := rails.Order(layout, at)
	if !slices.Contains(orders, gotOrder) || gotE != e {
		t.Errorf("P5: Order(%.90q, %.20q) = %q, %d, want one of %q, %d", layout, at, gotOrder, gotE, orders, e)
	}
}

func TestSafeOfLine(t *testing.T) {
	for _, at := range []string{"00", "10", "01", "12", "21", "33", "30", "03"} {
		testSafe(t, line, at, true, api.OK)
	}
	testSafe(t, line, "11", false, api.OK)
}

func TestOrderOfLine(t *testing.T) {
	testOrder(t, line, "10", []string{"12"}, api.OK)
	testOrder(t, line, "01", []string{"21"}, api.OK)
	testOrder(t, line, "30", []string{"2"}, api.OK)
	testOrder(t, line, "33", []string{""}, api.OK)
	testOrder(t, line, "12", []string{"12", "21"}, api.OK)
	testOrder(t, line, "11", []string{""}, api.ErrStuck)
}

// What a train has behind it, what a done train stands in and what it holds
// itself are in nobody's way.
func TestWhatIsHeld(t *testing.T) {
	testSafe(t, "111/..../a>b,b>a,c>d,d>b/aAB,cCD", "11", true, api.OK)
	testOrder(t, "111/..../a>b,b>a,c>d,d>b/aAB,cCD", "11", []string{"12"}, api.OK)
	testOrder(t, "111/..../a>b,b>a,c>d,d>b/aAB,cCD", "21", []string{"2"}, api.OK)
	testOrder(t, "111/.../a>b,b>a,c>b/aABA,cC", "30", []string{"2"}, api.OK)
	testOrder(t, "111/../a>b,b>a/aABAB", "1", []string{"1"}, api.OK)
	// Both hold b, and neither goes there again.
	testOrder(t, "111/..../a>b,b>c,c>d/aAB,bBC", "10", []string{"12", "21"}, api.OK)
	// Both hold b, and each goes there again: it is held by another.
	testSafe(t, "111/..../a>b,b>c,c>b,b>d/aABC,bBCD", "10", false, api.OK)
	// Path sections ahead of the last are not held.
	testSafe(t, "111/...../a>bc,c>d,e>b/aAB,eC", "10", true, api.OK)
	testOrder(t, "111/..../a>b,b>c,c>d/aA,bB,cC", "000", []string{"321"}, api.OK)
}

func TestNoState(t *testing.T) {
	for _, at := range []string{"", "0", "000", "40", "04", "0/", ":0", "0 ", " 00", "00 ", "-1", "+1", "a0", "0\x00", "0\xff", "٠", "90", "09", strings.Repeat("0", 1<<20)} {
		testSafe(t, line, at, false, api.ErrAt)
		testOrder(t, line, at, []string{""}, api.ErrAt)
	}
	bounce := "111/../a>b,b>a/aABABABAB"
	testSafe(t, bounce, "8", true, api.OK)
	testSafe(t, bounce, "9", false, api.ErrAt)
	testOrder(t, bounce, "7", []string{"1"}, api.OK)
	testOrder(t, bounce, "8", []string{""}, api.OK)
	testOrder(t, bounce, "9", []string{""}, api.ErrAt)
}

// The error of the layout comes ahead of that of the state.
func TestStateOfWrongLayout(t *testing.T) {
	for _, layout := range []string{
		"", "324/", longest(1), strings.Repeat("x", 1<<20),
		"111/" + strings.Repeat(".", 17) + "/a>b/aA", "111/../a>a/aA", "111/../a>b/aB", "111/../a>b,b>a/aA,bB",
	} {
		e, _ := toldCheck(layout)
		if e == api.OK {
			t.Errorf("%.60q is a layout", layout)
		}
		for _, at := range []string{"", "0", "00", "11", "99", "x"} {
			testSafe(t, layout, at, false, e)
			testOrder(t, layout, at, []string{""}, e)
		}
	}
}

func testAllStates(t *testing.T, layout string) (safe, stuck int) {
	t.Helper()
	lay := tell(layout)
	for _, at := range lay.states() {
		orders := lay.orders(at)
		if len(orders) == 0 {
			stuck++
			testSafe(t, layout, at, false, api.OK)
			testOrder(t, layout, at, []string{""}, api.ErrStuck)
			continue
		}
		safe++
		testSafe(t, layout, at, true, api.OK)
		testOrder(t, layout, at, orders, api.OK)
	}
	return safe, stuck
}

func TestAllStates(t *testing.T) {
	for _, layout := range goodLayouts {
		testAllStates(t, layout)
	}
	d := draw{seed: 2}
	safe, stuck := 0, 0
	for range 10000 {
		for _, layout := range []string{d.layout(), d.shuttle()} {
			if e, _ := tell(layout).check(); e == api.OK {
				moreSafe, moreStuck := testAllStates(t, layout)
				safe += moreSafe
				stuck += moreStuck
			}
		}
	}
	if safe < 1000 || stuck < 1000 {
		t.Errorf("only %d safe and %d stuck states", safe, stuck)
	}
	t.Logf("%d safe and %d stuck states", safe, stuck)
}
