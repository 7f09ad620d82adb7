package rails_test

import (
	"slices"
	"strings"
	"testing"

	"rails/api"
	"rails/rails"
)

// step is a row of the document's tables: a frame, the answer, and what the
// box tells behind it.
type step struct{ frame, answer, locks, phases, switches, at, queue string }

func row(frame, answer string, is told) step {
	return step{frame, answer, is.locks, is.phases, is.switches, is.at, is.queue}
}

// play holds the program to the rows, and the second reading of the document,
// too, so that neither is wrong where the rows are right.
func play(t *testing.T, layout string, steps []step) {
	t.Helper()
	b, oracle := newBox(t, layout), newToldBox(layout)
	for i, want := range steps {
		answer := b.Cycle(want.frame)
		if is := row(want.frame, answer, askBox(b)); is != want {
			t.Fatalf("%s, cycle %d:\n got %q\nwant %q", layout, i+1, is, want)
		}
		answer = oracle.cycle(want.frame)
		if is := row(want.frame, answer, oracle.tells()); is != want {
			t.Fatalf("%s, cycle %d, second reading:\n got %q\nwant %q", layout, i+1, is, want)
		}
	}
}

func TestNewIsAsCheckSays(t *testing.T) {
	wrong := []string{
		strings.Repeat("1", 257), "", "324/", "111/................./a>b/aA", "111/../a>c/aA",
		"111/../a>b,b>c/aA", "111/../a>b/aB", "111/../a>b,b>a/aA,bB",
	}
	d := &draw{seed: 21}
	for range 2000 {
		wrong = append(wrong, d.layout(), d.changed(d.layout()))
	}
	for _, layout := range slices.Concat(wrong, goodLayouts, boxLayouts) {
		want, _ := rails.Check(layout)
		b, e := rails.New(layout)
		if e != want || (b != nil) != (want == api.OK) {
			t.Errorf("P6: New(%.60q) = %v, %d, want %d", layout, b, e, want)
		}
	}
}

func TestNewBoxAtFirst(t *testing.T) {
	for _, c := range []struct {
		layout string
		is     told
	}{
		{line, told{"........", "......", "++", "00", ""}},
		{"111/../a>b/aA", told{"..", ".", "", "0", ""}},
		{"123/.yyyyy./a>g!b+c-d+e-/aA", told{".......", ".", "+++++", "0", ""}},
		{"999/......./a>b,b>c,c>d,d>e,e>f,f>g/aABC,bBCD,cCDE,dDEF,eEF", told{".......", "......", "", "00000", ""}},
	} {
		if is := askBox(newBox(t, c.layout)); is != c.is {
			t.Errorf("P6: %q at first %+v, want %+v", c.layout, is, c.is)
		}
	}
}

func TestTableOfLine(t *testing.T) {
	play(t, line, []step{
		{"10000001++r1r2", "=rrrrrr/../qq/1", "..AA....", "w.....", "++", "10", "2"},
		{"10000001++", "=grrrrr/..//", "..AA....", "g.....", "++", "10", "2"},
		{"10100001++", "=rrrrrr/..//", "..AA....", "t.....", "++", "10", "2"},
		{"0010", "!", "..AA....", "t.....", "++", "10", "2"},
		{"00110001++r1", "=rrrrrr/../q/", "..AA....", "t.....", "++", "10", "21"},
		{"00010001++r2", "=rrrrrr/../t/", "...A....", "t.....", "++", "10", "21"},
		{"00010001++", "=rrrrrr/..//1", "....B...", ".w....", "++", "20", "2"},
	})
}

// Both trains of LINE come to their ends.
func TestAllTheWay(t *testing.T) {
	play(t, line, []step{
		{"10000001++r2r1", "=rrrrrr/.-/qq/2", "....DD..", "...w..", "+-", "01", "1"},
		{"10000001+-", "=rrrgrr/..//", "....DD..", "...g..", "+-", "01", "1"},
		{"10000101+-", "=rrrrrr/..//", "....DD..", "...t..", "+-", "01", "1"},
		{"10001100+-r2", "=rrrrrr/../q/", "....DD..", "...t..", "+-", "01", "12"},
		{"10001000+-", "=rrrrrr/..//", "....D...", "...t..", "+-", "01", "12"},
		{"10001000+-", "=rrrrrr/..//2", "...E....", "....w.", "+-", "02", "1"},
		{"10001000+-", "=rrrrgr/..//", "...E....", "....g.", "+-", "02", "1"},
		{"10011000+-", "=rrrrrr/..//", "...E....", "....t.", "+-", "02", "1"},
		{"10010000+-r2", "=rrrrrr/-./q/2", ".FF.....", ".....w", "--", "03", "1"},
		{"10010000--r2", "=rrrrrg/../d/", ".FF.....", ".....g", "--", "03", "1"},
		{"10110000--", "=rrrrrr/..//", ".FF.....", ".....t", "--", "03", "1"},
		{"11100000--", "=rrrrrr/..//", ".FF.....", ".....t", "--", "03", "1"},
		{"11000000--", "=rrrrrr/+.//1", ".FAA....", "w....t", "+-", "13", ""},
		{"11000000?-", "=rrrrrr/+.//", "..AA....", "w.....", "+-", "13", ""},
		{"11000000+-", "=grrrrr/..//", "..AA....", "g.....", "+-", "13", ""},
	})
}

// A route waits for its switches, those of its flank among them, and for a
// free path; it shows no green, and the switches that lie wrong are to move.
func TestWaiting(t *testing.T) {
	play(t, "999/.y.y./a>b-ce!d-/aA", []step{
		{"10000++r1", "=r/--/q/1", ".AA.A", "w", "--", "1", ""},
		{"10000-+", "=r/.-//", ".AA.A", "w", "--", "1", ""},
		{"10000?-", "=r/-.//", ".AA.A", "w", "--", "1", ""},
		{"10000+?", "=r/--//", ".AA.A", "w", "--", "1", ""},
		{"10100--", "=r/..//", ".AA.A", "w", "--", "1", ""},
		{"10001--", "=r/..//", ".AA.A", "w", "--", "1", ""},
		{"11000--", "=r/..//", ".AA.A", "w", "--", "1", ""},
		{"11000+-", "=r/..//", ".AA.A", "w", "--", "1", ""},
		{"10010-+", "=r/..//", ".AA.A", "w", "--", "1", ""},
		{"00010--", "=g/..//", ".AA.A", "g", "--", "1", ""},
	})
}

// A green route goes back if something is wrong, but a train that has come
// into its first section passes all the same.
func TestGreen(t *testing.T) {
	begin := []step{
		{"10000++r1", "=r/--/q/1", ".AA.A", "w", "--", "1", ""},
		{"10000--", "=g/..//", ".AA.A", "g", "--", "1", ""},
		{"10010--", "=g/..//", ".AA.A", "g", "--", "1", ""},
		{"00000--", "=g/..//", ".AA.A", "g", "--", "1", ""},
		{"10100--", "=r/..//", ".AA.A", "w", "--", "1", ""},
		{"10000--", "=g/..//", ".AA.A", "g", "--", "1", ""},
		{"10001--", "=r/..//", ".AA.A", "w", "--", "1", ""},
		{"10000--", "=g/..//", ".AA.A", "g", "--", "1", ""},
		{"10000?-", "=r/-.//", ".AA.A", "w", "--", "1", ""},
		{"10000--", "=g/..//", ".AA.A", "g", "--", "1", ""},
		{"10000-+", "=r/.-//", ".AA.A", "w", "--", "1", ""},
		{"10000--", "=g/..//", ".AA.A", "g", "--", "1", ""},
	}
	for _, frame := range []string{"11000--", "01000--", "11101--", "11010?+"} {
		play(t, "999/.y.y./a>b-ce!d-/aA", append(slices.Clone(begin), step{frame, "=r/..//", ".AA.A", "t", "--", "1", ""}))
	}
}

// Behind the train the sections are released one at a time, in their order.
func TestPassing(t *testing.T) {
	play(t, "999/.y.y./a>b-ce!d-/aA", []step{
		{"10000--r1", "=r/../q/1", ".AA.A", "w", "--", "1", ""},
		{"10000--", "=g/..//", ".AA.A", "g", "--", "1", ""},
		{"11101--", "=r/..//", ".AA.A", "t", "--", "1", ""}, // b alone is marked
		{"10000--", "=r/..//", ".AA.A", "t", "--", "1", ""},
		{"10001--", "=r/..//", ".AA.A", "t", "--", "1", ""}, // e is marked, c is not
		{"11100--", "=r/..//", ".AA.A", "t", "--", "1", ""}, // c is, but b is occupied
		{"10100+?", "=r/..//", "..A.A", "t", "--", "1", ""},
		{"10100+?", "=r/..//", "..A.A", "t", "--", "1", ""},
		{"11000--", "=r/..//", "....A", "t", "--", "1", ""}, // e has been marked before
		{"10101--", "=r/..//", "....A", "t", "--", "1", ""}, // c is occupied again
		{"11011--", "=r/..//", ".....", ".", "--", "1", ""},
	})
	play(t, "119/..../a>bcd/aA", []step{
		{"1000r1", "=r//q/1", ".AAA", "w", "", "1", ""},
		{"1000", "=g///", ".AAA", "g", "", "1", ""},
		{"0100", "=r///", ".AAA", "t", "", "1", ""},
		{"0011", "=r///", "..AA", "t", "", "1", ""}, // both are marked: one is released
		{"0001", "=r///", "...A", "t", "", "1", ""},
		{"0000", "=r///", "....", ".", "", "1", ""},
	})
	play(t, "119/..../a>bcd/aA", []step{
		{"1000r1", "=r//q/1", ".AAA", "w", "", "1", ""},
		{"1000", "=g///", ".AAA", "g", "", "1", ""},
		{"0111", "=r///", ".AAA", "t", "", "1", ""},
		{"0111", "=r///", ".AAA", "t", "", "1", ""},
		{"0000", "=r///", "..AA", "t", "", "1", ""}, // the marks stay
		{"0000", "=r///", "...A", "t", "", "1", ""},
		{"0010", "=r///", "...A", "t", "", "1", ""},
		{"1100", "=r///", "....", ".", "", "1", ""},
	})
}

// A path of one section is released when the foot is free.
func TestPassingOneSection(t *testing.T) {
	play(t, "111/../a>b/aA", []step{
		{"10r1", "=r//q/1", ".A", "w", "", "1", ""},
		{"10", "=g///", ".A", "g", "", "1", ""},
		{"11", "=r///", ".A", "t", "", "1", ""},
		{"11", "=r///", ".A", "t", "", "1", ""},
		{"10", "=r///", ".A", "t", "", "1", ""},
		{"00", "=r///", "..", ".", "", "1", ""},
	})
}

// A section that has been released may be locked by the next, while the route
// that had it passes on.
func TestReleasedSectionIsLockedAgain(t *testing.T) {
	play(t, "119/...../a>bc,d>be/aA,dB", []step{
		{"10010r1r2", "=rr//qq/1", ".AA..", "w.", "", "10", "2"},
		{"10010", "=gr///", ".AA..", "g.", "", "10", "2"},
		{"11010", "=rr///", ".AA..", "t.", "", "10", "2"},
		{"01110", "=rr///", ".AA..", "t.", "", "10", "2"},
		{"00110", "=rr///2", ".BA.B", "tw", "", "11", ""},
		{"00110", "=rg///", ".B..B", ".g", "", "11", ""},
		{"01110", "=rr///", ".B..B", ".t", "", "11", ""},
	})
}

// The marks of an earlier passing of the same route do not count.
func TestRouteTakenTwice(t *testing.T) {
	play(t, "119/.../a>bc,c>a/aABA", []step{
		{"100r1", "=rr//q/1", ".AA", "w.", "", "1", ""},
		{"100", "=gr///", ".AA", "g.", "", "1", ""},
		{"010", "=rr///", ".AA", "t.", "", "1", ""},
		{"001", "=rr///", "..A", "t.", "", "1", ""},
		{"001r1", "=rr//q/1", "B..", ".w", "", "2", ""},
		{"001", "=rg///", "B..", ".g", "", "2", ""},
		{"100", "=rr///", "B..", ".t", "", "2", ""},
		{"100r1", "=rr//q/1", ".AA", "w.", "", "3", ""},
		{"100", "=gr///", ".AA", "g.", "", "3", ""},
		{"010", "=rr///", ".AA", "t.", "", "3", ""},
		{"000", "=rr///", ".AA", "t.", "", "3", ""},
	})
}

func TestRequests(t *testing.T) {
	// Something stands in b and d, so nobody is granted a route at first.
	play(t, "112/....../a>b,c>d,e>f/aA,cB,eC", []step{
		{"111110r1r2r1r3r2", "=rrr//qqtft/", "......", "...", "", "000", "12"},
		{"111110r3r2r1", "=rrr//ftt/", "......", "...", "", "000", "12"},
		{"111010r3r1", "=rrr//ft/2", "...B..", ".w.", "", "010", "1"},
		{"111010r2r3r3", "=rgr//dqt/3", "...B.C", ".gw", "", "011", "1"},
		{"111010r3r2r1", "=rgg//ddt/", "...B.C", ".gg", "", "011", "1"},
		{"101010r1r3", "=rgg//td/1", ".A.B.C", "wgg", "", "111", ""},
		{"101010r1r2r3", "=ggg//ddd/", ".A.B.C", "ggg", "", "111", ""},
	})
	play(t, "111/../a>b,b>a/aAB", []step{
		{"10r1r1", "=rr//qt/1", ".A", "w.", "", "1", ""},
		{"10r1r1", "=gr//qt/", ".A", "g.", "", "1", "1"},
		{"10r1", "=gr//t/", ".A", "g.", "", "1", "1"},
	})
}

// To name a route that is idle or passing, or a switch that has not failed, is
// to no end.
func TestNothingToDrop(t *testing.T) {
	play(t, "319/.y/a>b+/aA", []step{
		{"10+cAmbcA", "=r/./nnn/", "..", ".", "+", "0", ""},
		{"10+cAr1mb", "=r/./nqn/1", ".A", "w", "+", "1", ""},
		{"10+mbmb", "=g/./nn/", ".A", "g", "+", "1", ""},
		{"11+cA", "=r/./n/", ".A", "t", "+", "1", ""},
		{"11+cAcAr1", "=r/./nnd/", ".A", "t", "+", "1", ""},
		{"01+cA", "=r/./n/", "..", ".", "+", "1", ""},
	})
}
