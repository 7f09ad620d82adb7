package rails_test

import (
	"strings"
	"testing"

	"rails/api"
	"rails/rails"
)

type checkCase struct {
	layout string
	e      api.Errno
	place  int
}

func testChecks(t *testing.T, cases []checkCase) {
	t.Helper()
	for _, c := range cases {
		e, place := rails.Check(c.layout)
		if e != c.e || place != c.place {
			t.Errorf("P3: Check(%.90q) = %d, %d, want %d, %d", c.layout, e, place, c.e, c.place)
		}
	}
}

func many(text string, n int) string { return strings.TrimSuffix(strings.Repeat(text+",", n), ",") }

// longest has as many bytes as a layout may have, with n sections more it has n bytes more.
func longest(n int) string {
	route := "a>b+c+d+e+f+g+"
	return "111/." + strings.Repeat("y", 14+n) + "/" + many(route+"!h+i-j+k-", 9) + "," + route + "!h+/aJ"
}

func TestCheckGood(t *testing.T) {
	for _, layout := range goodLayouts {
		testChecks(t, []checkCase{{layout, api.OK, 0}})
	}
}

func TestCheckLong(t *testing.T) {
	if len(longest(0)) != api.MaxLayout {
		t.Fatalf("longest has %d bytes", len(longest(0)))
	}
	testChecks(t, []checkCase{
		{longest(0), api.OK, 0},
		{longest(1), api.ErrLong, 0},
		{strings.Repeat(".", 256), api.ErrForm, 0},
		{strings.Repeat(".", 257), api.ErrLong, 0},
		{"111/" + strings.Repeat(".", 252), api.ErrForm, 256},
		{"111/" + strings.Repeat(".", 253), api.ErrLong, 0},
		{line + strings.Repeat("\x00", 1<<22), api.ErrLong, 0},
	})
}

func TestCheckFormPlaces(t *testing.T) {
	testChecks(t, []checkCase{
		{"011/../a>b/aA", api.ErrForm, 0}, {"101/../a>b/aA", api.ErrForm, 1}, {"110/../a>b/aA", api.ErrForm, 2}, {"11:/../a>b/aA", api.ErrForm, 2},
		{"11/../a>b/aA", api.ErrForm, 2}, {"1111/../a>b/aA", api.ErrForm, 3}, {" 111/../a>b/aA", api.ErrForm, 0}, {"/111/../a>b/aA", api.ErrForm, 0},
		{"111//a>b/aA", api.ErrForm, 4}, {"111/.Y/a>b/aA", api.ErrForm, 5}, {"111/..,/a>b/aA", api.ErrForm, 6},
		{"111/..//aA", api.ErrForm, 7}, {"111/../,a>b/aA", api.ErrForm, 7}, {"111/../a>b,,a>b/aA", api.ErrForm, 11}, {"111/../a>b,/aA", api.ErrForm, 11},
		{"111/../q>b/aA", api.ErrForm, 7}, {"111/../`>b/aA", api.ErrForm, 7}, {"111/../p>b/aA", api.ErrRoute, 0}, {"111/../a+>b/aA", api.ErrForm, 8}, {"111/../ab/aA", api.ErrForm, 8},
		{"111/../a>/aA", api.ErrForm, 9}, {"111/../a>,a>b/aA", api.ErrForm, 9}, {"111/../a>!b+/aA", api.ErrForm, 9}, {"111/../a>q/aA", api.ErrForm, 9}, {"111/../a>bq/aA", api.ErrForm, 10}, {"111/../a>p/aA", api.ErrRoute, 0},
		{"111/.y/a>b+-/aA", api.ErrForm, 11}, {"111/.y/a>b+>/aA", api.ErrForm, 11},
		{"111/../a>b!/aA", api.ErrForm, 11}, {"111/../a>b!!/aA", api.ErrForm, 11}, {"111/../a>b!c/aA", api.ErrForm, 12}, {"111/../a>b!cd+/aA", api.ErrForm, 12}, {"111/../a>b!c++/aA", api.ErrForm, 13}, {"111/../a>b!c+d/aA", api.ErrForm, 14}, {"111/../a>b!c+!d+/aA", api.ErrForm, 13}, {"111/../a>b!q+/aA", api.ErrForm, 11},
		{"111/../a>b//aA", api.ErrForm, 11}, {"111/../a>b/A", api.ErrForm, 11}, {"111/../a>b/qA", api.ErrForm, 11}, {"111/../a>b/a,bA", api.ErrForm, 12}, {"111/../a>b/aM", api.ErrForm, 12}, {"111/../a>b/a@", api.ErrForm, 12}, {"111/../a>b/aL", api.ErrTrain, 0}, {"111/../a>b/aAb", api.ErrForm, 13}, {"111/../a>b/aA,,", api.ErrForm, 14}, {"111/../a>b/aA\n", api.ErrForm, 13}, {"111/../a>b/aA\x00", api.ErrForm, 13}, {"111/../a>b/aA/", api.ErrForm, 13},
		{"111/.\xff/a>b/aA", api.ErrForm, 5}, {"111/../ä>b/aA", api.ErrForm, 7},
	})
}

func TestCheckEndsTooEarly(t *testing.T) {
	for _, layout := range goodLayouts {
		for n := range len(layout) {
			if !layoutForm.MatchString(layout[:n]) {
				testChecks(t, []checkCase{{layout[:n], api.ErrForm, n}})
			}
		}
	}
	testChecks(t, []checkCase{
		{"", api.ErrForm, 0}, {"324/", api.ErrForm, 4}, {"324/..y..y../a>c+d!", api.ErrForm, 19}, {"111/.y./a>c!b", api.ErrForm, 13}, {"111/.y./a>c!b+", api.ErrForm, 14}, {"111/../a>b,", api.ErrForm, 11}, {"111/../a>b/aA,", api.ErrForm, 14}, {"111/../a>b/aA,b", api.ErrForm, 15},
	})
}

func TestCheckSizes(t *testing.T) {
	chain := "111/......./a>b,b>c,c>d,d>e,e>f,f>g/aA,bB,cC,dD,eE"
	testChecks(t, []checkCase{
		{"111/" + strings.Repeat(".", 16) + "/o>p/oA", api.OK, 0}, {"111/" + strings.Repeat(".", 17) + "/o>p/oA", api.ErrSize, 0},
		{"111/../" + many("a>b", 12) + "/aL", api.OK, 0}, {"111/../" + many("a>b", 13) + "/aL", api.ErrSize, 0},
		{"111/......../a>b,b>cdefgh/aA", api.OK, 0}, {"111/........./a>b,b>cdefghi/aA", api.ErrSize, 0},
		{"111/.yyyyy./a>g,a>g!b+c-d+e-/aB", api.OK, 0}, {"111/.yyyyy./a>g,a>g!b+c-d+e-f+/aA", api.ErrSize, 0},
		{chain, api.OK, 0}, {chain + ",fF", api.ErrSize, 0},
		{"111/..../a>b,b>a,c>d/cC,aABABABAB", api.OK, 0}, {"111/..../a>b,b>a,c>d/cC,aABABABABA", api.ErrSize, 0},
	})
}

func TestCheckRoutes(t *testing.T) {
	testChecks(t, []checkCase{
		{"111/../c>b/aA", api.ErrRoute, 0}, {"111/../a>c/aA", api.ErrRoute, 0}, {"111/.../a>bd/aA", api.ErrRoute, 0}, {"111/.y./a>c!d+/aA", api.ErrRoute, 0},
		{"111/..../a>bcb/aA", api.ErrRoute, 0}, {"111/..../a>bca/aA", api.ErrRoute, 0}, {"111/.y/a>b+b-/aA", api.ErrRoute, 0},
		{"111/.y./a>bc/aA", api.ErrRoute, 0}, {"111/.y./a>b+c-/aA", api.ErrRoute, 0}, {"111/.y./a>b-c/aA", api.OK, 0},
		{"111/.y./a>c!b+/aA", api.OK, 0}, {"111/.../a>c!b+/aA", api.ErrRoute, 0}, {"111/.y./a>b+c!b+/aA", api.ErrRoute, 0}, {"111/.yy./a>d!b+c-b+/aA", api.ErrRoute, 0},
		{"111/.yy./a>d!b+,a>b+/aA", api.ErrRoute, 0}, {"111/.yy./a>b+,a>d!b+/aA", api.ErrRoute, 1}, {"111/.yy./a>b+d,a>d!b+/aA", api.OK, 0},
		// A flank may hold the foot: nothing rules it out.
		{"111/.yy./b>d!b+,a>d/aB", api.OK, 0},
		{"111/../a>b,b>a,c>a/aA", api.ErrRoute, 2}, {"111/../a>b,b>b,c>a/aA", api.ErrRoute, 1},
	})
}

func TestCheckTrains(t *testing.T) {
	testChecks(t, []checkCase{
		{"111/../a>b/cA", api.ErrTrain, 0}, {"111/../a>b,b>a/aA,aA", api.ErrTrain, 1}, {"111/..../a>b,a>c/aA,aB", api.ErrTrain, 1},
		{"111/y.../a>b,c>d!a+/aA", api.ErrTrain, 0}, {"111/y.../a>b,c>d!a+/cB", api.OK, 0}, {"111/y.../a>b,c>d!a+/cB,aA", api.ErrTrain, 1},
		{"111/../a>b/aB", api.ErrTrain, 0}, {"111/../a>b,b>a/aABC", api.ErrTrain, 0}, {"111/../a>b/bA", api.ErrTrain, 0},
		{"111/.../a>b,b>c/aBA", api.ErrTrain, 0}, {"111/.../a>b,b>c/aAA", api.ErrTrain, 0}, {"111/..../a>bc,b>d/aAB", api.ErrTrain, 0}, {"111/..../a>bc,c>d/aAB", api.OK, 0},
		{"111/..../a>b,c>d/aA,cB,bA", api.ErrTrain, 2}, {"111/..../a>b,c>d/aA,dB,bA", api.ErrTrain, 1},
	})
}

func TestCheckUnsafe(t *testing.T) {
	testChecks(t, []checkCase{
		{"111/../a>b,b>a/aA,bB", api.ErrUnsafe, 0}, {"111/.../a>b,b>c,c>a/aA,bB,cC", api.ErrUnsafe, 0}, {"111/..../a>b,b>c,c>d/cC,bB,aA", api.OK, 0},
		{"111/..../a>bc,c>ba,d>c/aA,cB,dC", api.ErrUnsafe, 0}, {"111/.../a>bc,c>b/aA,cB", api.OK, 0},
		// A section further along a journey counts as well as those of its next route.
		{"111/..../a>b,b>c,c>d,d>ca/aAB,cCD", api.ErrUnsafe, 0},
	})
}

func TestCheckFirstError(t *testing.T) {
	testChecks(t, []checkCase{
		{"000/" + strings.Repeat(".", 253), api.ErrLong, 0},
		{"111/" + strings.Repeat(".", 17) + "/a>a/q", api.ErrForm, 26},
		{"111/../" + many("a>b", 13) + "/aA!", api.ErrForm, 7 + 13*4 + 2},
		{"111/" + strings.Repeat(".", 17) + "/a>a/aA", api.ErrSize, 0},
		{"111/../a>a/bA,aA,cA,dA,eA,fA", api.ErrSize, 0},
		{"111/../a>b,b>a,a>c/aA,bB", api.ErrRoute, 2},
		{"111/../a>a/bA", api.ErrRoute, 0},
		{"111/../a>b,b>a/aA,bB,aA", api.ErrTrain, 2},
	})
}

// Each text near a good layout, by one byte, and many by some more.
func TestCheckNearGoodLayouts(t *testing.T) {
	var seen [9]int
	compare := func(text string) {
		e, place := toldCheck(text)
		seen[e]++
		testChecks(t, []checkCase{{text, e, place}})
	}
	for _, layout := range goodLayouts[:4] {
		for i := range len(layout) {
			compare(layout[:i] + layout[i+1:])
			for _, b := range []byte(formBytes) {
				compare(layout[:i] + string([]byte{b}) + layout[i+1:])
				compare(layout[:i] + string([]byte{b}) + layout[i:])
			}
		}
	}
	d := draw{seed: 1}
	for range 20000 {
		text := d.layout()
		if d.below(4) == 0 {
			text = d.shuttle()
		}
		for range d.below(3) {
			text = d.changed(text)
		}
		compare(text)
	}
	for _, e := range []api.Errno{api.OK, api.ErrForm, api.ErrRoute, api.ErrTrain, api.ErrUnsafe} {
		if seen[e] < 100 {
			t.Errorf("only %d texts with error %d", seen[e], e)
		}
	}
	t.Log("texts by their error:", seen)
}
