package rails_test

import (
	"fmt"
	"slices"
	"testing"

	"rails/api"
)

func TestTableOfLineWithACancelledRoute(t *testing.T) {
	play(t, line, []step{
		{"10000001++r1r2", "=rrrrrr/../qq/1", "..AA....", "w.....", "++", "10", "2"},
		{"10000001++", "=grrrrr/..//", "..AA....", "g.....", "++", "10", "2"},
		{"10000001++cAcB", "=rrrrrr/../kn/", "..AA....", "d.....", "++", "10", "2"},
		{"10000001++", "=rrrrrr/..//", "..AA....", "d.....", "++", "10", "2"},
		{"10000001++", "=rrrrrr/..//", "..AA....", "d.....", "++", "10", "2"},
		{"10000001++", "=rrrrrr/.-//2", "....DD..", "...w..", "+-", "01", ""},
		{"10000001+?", "=rrrrrr/.-//", "....DD..", "...w..", "+-", "01", ""},
		{"10000001+?", "=rrrrrr/.-//", "....DD..", "...w..", "+-", "01", ""},
		{"10000001+?mf", "=rrrrrr/../m/", "....DD..", "...f..", "+-", "01", ""},
		{"10000001+-cD", "=rrrrrr/../k/", "....DD..", "...d..", "+-", "01", ""},
		{"10000001+-r2", "=rrrrrr/../q/2", "....DD..", "...w..", "+-", "01", ""},
		{"10000001+-", "=rrrgrr/..//", "....DD..", "...g..", "+-", "01", ""},
	})
}

// A route that has shown green to a train at its foot is kept for D cycles
// more; then it is released, all at once, and its train is put back.
func TestDroppedForDCycles(t *testing.T) {
	for wait := 1; wait <= 9; wait++ {
		steps := []step{
			{"10000r1", "=rr//q/1", ".AAA.", "w.", "", "1", ""},
			{"10000", "=gr///", ".AAA.", "g.", "", "1", ""},
			{"10000cA", "=rr//k/", ".AAA.", "d.", "", "1", ""},
		}
		for n := range wait {
			// Neither the foot nor the end of the path counts for the count.
			frame := []string{"10000", "00000", "10010", "00110"}[n%4]
			steps = append(steps, step{frame, "=rr///", ".AAA.", "d.", "", "1", ""})
		}
		steps = append(steps, step{"10000", "=rr///", ".....", "..", "", "0", ""})
		play(t, fmt.Sprintf("1%d9/...../a>bcd,d>e/aAB", wait), steps)
	}
}

// The count is 0 if the route has not been green, or nobody is at its foot.
func TestDroppedAtOnce(t *testing.T) {
	const layout = "994/.y./a>b+c/aA"
	waits := []step{{"100+r1", "=r/./q/1", ".AA", "w", "+", "1", ""}, {"101+", "=r/.//", ".AA", "w", "+", "1", ""}}
	green := []step{{"100+r1", "=r/./q/1", ".AA", "w", "+", "1", ""}, {"100+", "=g/.//", ".AA", "g", "+", "1", ""}}
	gone := step{"100+", "=r/.//", "...", ".", "+", "0", ""}
	kept := step{"100+", "=r/.//", ".AA", "d", "+", "1", ""}
	for _, c := range []struct {
		begin []step
		frame string
		next  step
	}{
		{waits, "101+cA", gone}, {waits, "001+cA", gone}, {waits, "101?cA", gone},
		{green, "000+cA", gone}, {green, "000?cA", gone}, {green, "001+cA", gone},
		{green, "100+cA", kept}, {green, "100?cA", kept}, {green, "101+cA", kept},
		{waits, "100+cA", kept}, // it becomes green in this very cycle, ahead of the command
		{waits, "000+cA", gone},
		{waits[:1], "101+cA", gone}, {waits[:1], "100+cA", kept},
	} {
		dropped := step{c.frame, "=r/./k/", ".AA", "d", "+", "1", ""}
		play(t, layout, append(slices.Clone(c.begin), dropped, c.next))
	}
	// Granted and named in one frame: it is dropped in the next only.
	play(t, layout, []step{
		{"100+r1cA", "=r/./qn/1", ".AA", "w", "+", "1", ""},
		{"101+cAcA", "=r/./kn/", ".AA", "d", "+", "1", ""},
		gone,
	})
}

// A route that has been green once has been so until it is granted anew.
func TestHasBeenGreen(t *testing.T) {
	play(t, "319/.y./a>b+c/aA", []step{
		{"100+r1", "=r/./q/1", ".AA", "w", "+", "1", ""},
		{"100+", "=g/.//", ".AA", "g", "+", "1", ""},
		{"101+", "=r/.//", ".AA", "w", "+", "1", ""},
		{"101+", "=r/.//", ".AA", "w", "+", "1", ""},
		{"101+cA", "=r/./k/", ".AA", "d", "+", "1", ""}, // count 1
		{"100+r1", "=r/./d/", ".AA", "d", "+", "1", ""},
		{"100+r1", "=r/./q/1", ".AA", "w", "+", "1", ""}, // put back and granted again
		{"101+cA", "=r/./k/", ".AA", "d", "+", "1", ""},  // count 0: not green since then
		{"100+r1", "=r/./q/1", ".AA", "w", "+", "1", ""},
		{"100+", "=g/.//", ".AA", "g", "+", "1", ""},
		{"000+cA", "=r/./k/", ".AA", "d", "+", "1", ""}, // count 0: nobody there
		{"100+", "=r/.//", "...", ".", "+", "0", ""},
	})
	play(t, "129/.y./a>b+c/aA", []step{ // green, failed, cancelled
		{"100+r1", "=r/./q/1", ".AA", "w", "+", "1", ""},
		{"100+", "=g/.//", ".AA", "g", "+", "1", ""},
		{"100?", "=r/.//", ".AA", "f", "x", "1", ""},
		{"100?cA", "=r/./k/", ".AA", "d", "x", "1", ""}, // count 2
		{"100?", "=r/.//", ".AA", "d", "x", "1", ""},
		{"100?", "=r/.//", ".AA", "d", "x", "1", ""},
		{"100?", "=r/.//", "...", ".", "x", "0", ""},
	})
	play(t, "129/.y./a>b+c/aA", []step{ // failed without green, cancelled
		{"100?r1", "=r/+/q/1", ".AA", "w", "+", "1", ""},
		{"100?", "=r/.//", ".AA", "f", "x", "1", ""},
		{"100?cA", "=r/./k/", ".AA", "d", "x", "1", ""},
		{"100?", "=r/.//", "...", ".", "x", "0", ""},
	})
}

// A train that could not stop passes a dropped route, at any time until it is
// released, and from then on it is as with any route that a train passes.
func TestTrainPassesADroppedRoute(t *testing.T) {
	begin := []step{
		{"1000r1", "=r//q/1", ".AAA", "w", "", "1", ""},
		{"1000", "=g///", ".AAA", "g", "", "1", ""},
		{"1000cA", "=r//k/", ".AAA", "d", "", "1", ""},
	}
	wait := step{"1000", "=r///", ".AAA", "d", "", "1", ""}
	passes := []step{
		{"0100cA", "=r//n/", ".AAA", "t", "", "1", ""},
		{"0000r1", "=r//d/", ".AAA", "t", "", "1", ""}, // nothing but b is marked
		{"0011", "=r///", "..AA", "t", "", "1", ""},
		{"0001cA", "=r//n/", "...A", "t", "", "1", ""},
		{"0001", "=r///", "....", ".", "", "1", ""},
	}
	for n := range 4 { // with a count of 3 in the first cycle, and of 0 in the last
		steps := slices.Clone(begin)
		for range n {
			steps = append(steps, wait)
		}
		play(t, "139/..../a>bcd/aA", append(steps, passes...))
	}
	// All of the path is occupied at once: its first section alone is marked.
	play(t, "139/..../a>bcd/aA", append(slices.Clone(begin),
		step{"1111", "=r///", ".AAA", "t", "", "1", ""},
		step{"1000", "=r///", ".AAA", "t", "", "1", ""},
		step{"1010", "=r///", "..AA", "t", "", "1", ""},
	))
}

// What is left of the count when a train comes is no part of the next.
func TestCountBeginsAnew(t *testing.T) {
	play(t, "199/../a>b,b>a/aABA", []step{
		{"10r1", "=rr//q/1", ".A", "w.", "", "1", ""},
		{"10", "=gr///", ".A", "g.", "", "1", ""},
		{"10cA", "=rr//k/", ".A", "d.", "", "1", ""}, // count 9
		{"01", "=rr///", ".A", "t.", "", "1", ""},
		{"01r1", "=rr//q/1", "B.", ".w", "", "2", ""},
		{"01", "=rg///", "B.", ".g", "", "2", ""},
		{"10", "=rr///", "B.", ".t", "", "2", ""},
		{"10r1", "=rr//q/1", ".A", "w.", "", "3", ""},
		{"00cA", "=rr//k/", ".A", "d.", "", "3", ""}, // count 0
		{"10", "=rr///", "..", "..", "", "2", ""},
	})
}

// A dropped route is not released while something is in its path.
func TestDroppedPathIsOccupied(t *testing.T) {
	play(t, "119/..../a>bcd/aA", []step{
		{"1000r1", "=r//q/1", ".AAA", "w", "", "1", ""},
		{"0001cA", "=r//k/", ".AAA", "d", "", "1", ""},
		{"0001", "=r///", ".AAA", "d", "", "1", ""},
		{"0010", "=r///", ".AAA", "d", "", "1", ""},
		{"1011cA", "=r//n/", ".AAA", "d", "", "1", ""},
		{"1000", "=r///", "....", ".", "", "0", ""},
		{"1100", "=r///", "....", ".", "", "0", ""},
	})
}

// A dropped route shows no green, moves no switch and is not failed by one,
// but it holds its switches.
func TestDroppedHoldsItsSwitches(t *testing.T) {
	play(t, "239/.yy.../a>b-d!c-,e>c+f/aA,eB", []step{
		{"100010--r1r2", "=rr/../qq/1", ".A.A..", "w.", "--", "10", "2"},
		{"100010--", "=gr/..//", ".A.A..", "g.", "--", "10", "2"},
		{"100010--cA", "=rr/../k/", ".A.A..", "d.", "--", "10", "2"},
		{"100010++", "=rr/..//", ".A.A..", "d.", "--", "10", "2"},
		{"100010+-", "=rr/..//", ".A.A..", "d.", "x-", "10", "2"},
		{"100010++", "=rr/..//", ".A.A..", "d.", "x-", "10", "2"},
		{"100010++", "=rr/..//", "......", "..", "xx", "00", "2"},
		{"100010--mb", "=rr/../m/", "......", "..", "-x", "00", "2"},
		{"100010--mc", "=rr/.+/m/2", "..B..B", ".w", "-+", "01", ""},
	})
}

// How late a switch is goes on from one route to the next that holds it.
func TestLateFromRouteToRoute(t *testing.T) {
	play(t, "319/.y.../a>b-c,d>b+e/aA,dB", []step{
		{"10010?r1r2", "=rr/-/qq/1", ".AA..", "w.", "-", "10", "2"},
		{"10010?cA", "=rr/./k/", ".AA..", "d.", "-", "10", "2"}, // late by 1
		{"10010?", "=rr/+//2", ".B..B", ".w", "+", "01", ""},    // late by 2
		{"10010?", "=rr/.//", ".B..B", ".f", "x", "01", ""},
	})
	play(t, "319/.y.../a>b-c,d>b+e/aA,dB", []step{
		{"10010+r1r2", "=rr/-/qq/1", ".AA..", "w.", "-", "10", "2"},
		{"10010+cA", "=rr/./k/", ".AA..", "d.", "-", "10", "2"},
		{"10010+", "=rr/.//2", ".B..B", ".w", "+", "01", ""}, // as it is reported it is wanted now
		{"10010+", "=rg/.//", ".B..B", ".g", "+", "01", ""},
	})
}

// What is put back can be asked for again; a train that has asked already is
// granted its route in the very cycle in which it is put back.
func TestPutBack(t *testing.T) {
	play(t, "119/.../a>b,b>c/aAB", []step{
		{"100r1", "=rr//q/1", ".A.", "w.", "", "1", ""},
		{"100r1", "=gr//q/", ".A.", "g.", "", "1", "1"},
		{"000cA", "=rr//k/", ".A.", "d.", "", "1", "1"}, // dropped, it is still set for the train
		{"100", "=rr///1", ".A.", "w.", "", "1", ""},    // A, and not B
		{"100", "=gr///", ".A.", "g.", "", "1", ""},
		{"010", "=rr///", ".A.", "t.", "", "1", ""},
		{"010r1", "=rr//q/1", "..B", ".w", "", "2", ""},
		{"010r1cAcB", "=rr//dnk/", "..B", ".d", "", "2", ""}, // it has been green, b is its foot
		{"010r1", "=rr//d/", "..B", ".d", "", "2", ""},
		{"010", "=rr///", "...", "..", "", "1", ""},
		{"010r1", "=rr//q/1", "..B", ".w", "", "2", ""},
	})
}

// Each route gives its own train back; several may in one cycle.
func TestSeveralArePutBack(t *testing.T) {
	play(t, "119/....../a>b,c>d,e>f/aA,cB,eC", []step{
		{"101010r3r2r1", "=rrr//qqq/321", ".A.B.C", "www", "", "111", ""},
		{"000000cCcAcC", "=rgr//kkn/", ".A.B.C", "dgd", "", "111", ""},
		{"101010", "=rgr///", "...B..", ".g.", "", "010", ""},
		{"101010r1r3cB", "=rrr//qqk/13", ".A.B.C", "wdw", "", "111", ""},
		{"101010cAcBcCr2", "=rrr//knkd/", ".A.B.C", "ddd", "", "111", ""},
		{"000000r2", "=rrr//q/2", ".A.B.C", "dwd", "", "111", ""},
		{"000000", "=rgr///", "...B..", ".g.", "", "010", ""},
	})
}

// Putting back asks for no safe state; what is granted behind it does.
func TestPutBackIntoAnUnsafeState(t *testing.T) {
	const layout = "119/..../a>b,b>d,c>d,d>a/aAB,cCD"
	testSafe(t, layout, "01", false, api.OK)
	play(t, layout, []step{
		{"1010r1r2", "=rrrr//qq/12", ".A.C", "w.w.", "", "11", ""},
		{"0010cA", "=rrgr//k/", ".A.C", "d.g.", "", "11", ""},
		{"1010", "=rrgr///", "...C", "..g.", "", "01", ""},
		{"1010r1", "=rrgr//q/1", ".A.C", "w.g.", "", "11", ""},
	})
	play(t, layout, []step{
		{"1010r1r2", "=rrrr//qq/12", ".A.C", "w.w.", "", "11", ""},
		{"0010cA", "=rrgr//k/", ".A.C", "d.g.", "", "11", ""},
		{"1011", "=rrrr///", "...C", "..t.", "", "01", ""},
		{"1001r2", "=rrrr//q/", "....", "....", "", "01", "2"}, // a is occupied, and 02 is safe
		{"0001", "=rrrr///2", "D...", "...w", "", "02", ""},
	})
}
