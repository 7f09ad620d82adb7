package rails_test

import (
	"strings"
	"testing"

	"rails/api"
	"rails/rails"
)

// answers is all that the calls say of a layout and a state.
type answers struct {
	checkE api.Errno
	place  int
	safe   bool
	safeE  api.Errno
	order  string
	orderE api.Errno
}

func ask(layout, at string) answers {
	var a answers
	a.checkE, a.place = rails.Check(layout)
	a.safe, a.safeE = rails.Safe(layout, at)
	a.order, a.orderE = rails.Order(layout, at)
	return a
}

func testAnswers(t *testing.T, layout, at string) {
	t.Helper()
	a := ask(layout, at)
	if a.checkE != api.OK && (a.safeE != a.checkE || a.orderE != a.checkE) {
		t.Errorf("P1: %.60q, %.20q: not the error named first: %+v", layout, at, a)
	}
	if a.safeE != api.OK && a.safe || a.orderE != api.OK && a.order != "" {
		t.Errorf("P1: %.60q, %.20q: a result beside an error: %+v", layout, at, a)
	}
	if a.place < 0 || a.place > len(layout) {
		t.Errorf("P1: %.60q: no place: %+v", layout, a)
	}
	if a.place != 0 && a.checkE != api.ErrForm && a.checkE != api.ErrRoute && a.checkE != api.ErrTrain {
		t.Errorf("P3: %.60q: a place that is not asked for: %+v", layout, a)
	}
}

func TestAnyText(t *testing.T) {
	for first := range 256 {
		testAnswers(t, string([]byte{byte(first)}), string([]byte{byte(first)}))
		testAnswers(t, line, string([]byte{byte(first), '0'}))
		testAnswers(t, line, string([]byte{'0', byte(first)}))
		for i := range len(line) {
			testAnswers(t, line[:i]+string([]byte{byte(first)})+line[i+1:], "00")
		}
	}
	for _, n := range []int{0, 1, 2, 3, 4, 5, 63, 64, 65, 255, 256, 257, 258, 1 << 16, 1 << 24} {
		for _, b := range []string{"0", "1", "a", "A", ".", "/", ",", "\x00", "\xff"} {
			long := strings.Repeat(b, n)
			testAnswers(t, long, long)
			testAnswers(t, line, long)
			testAnswers(t, line+long, "00")
		}
	}
	for _, begin := range []string{"111/", "111/./", "111/../a>", "111/../a>b!", "111/../a>b/", "111/../a>b/a"} {
		for _, more := range []string{".", "y", "a", "a+", "a>b,", "aA,", "A"} {
			for n := range 130 {
				testAnswers(t, begin+strings.Repeat(more, n), "0")
			}
		}
	}
}

// What has been asked before, and in which order, counts for nothing.
func TestAnswersHangOnArgumentsAlone(t *testing.T) {
	var layouts []string
	layouts = append(layouts, goodLayouts...)
	layouts = append(layouts, "", "324/", longest(0), longest(1), "111/../a>a/aA", "111/../a>b/aB", "111/../a>b,b>a/aA,bB")
	states := []string{"", "0", "1", "00", "10", "11", "12", "000", "00000", "11111", "x"}
	var first []answers
	for _, layout := range layouts {
		for _, at := range states {
			first = append(first, ask(layout, at))
		}
	}
	for round := range 3 {
		for n := len(first) - 1; n >= 0; n-- {
			layout, at := layouts[n/len(states)], states[n%len(states)]
			again := ask(layout, at)
			if again != first[n] {
				t.Errorf("P2: round %d: %.60q, %q: %+v, at first %+v", round, layout, at, again, first[n])
			}
		}
	}
}
