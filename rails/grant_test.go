package rails_test

import "testing"

// A train has one route at a time, though the next be free.
func TestNoRouteIsSetForTheTrain(t *testing.T) {
	play(t, "119/.../a>b,b>c/aAB", []step{
		{"100r1", "=rr//q/1", ".A.", "w.", "", "1", ""},
		{"100r1", "=gr//q/", ".A.", "g.", "", "1", "1"},
		{"110", "=rr///", ".A.", "t.", "", "1", "1"},
		{"110", "=rr///", ".A.", "t.", "", "1", "1"},
		{"010", "=rr///1", "..B", ".w", "", "2", ""}, // released and granted in one cycle
	})
}

func TestPathIsFree(t *testing.T) {
	const layout = "119/...../a>bc,d>ce/aA,dB"
	play(t, layout, []step{ // occupied, be it the first or the last of the path
		{"11010r1", "=rr//q/", ".....", "..", "", "00", "1"},
		{"10110", "=rr///", ".....", "..", "", "00", "1"},
		{"00011", "=rr///1", ".AA..", "w.", "", "10", ""},
	})
	play(t, layout, []step{ // locked
		{"10010r1r2", "=rr//qq/1", ".AA..", "w.", "", "10", "2"},
		{"10010", "=gr///", ".AA..", "g.", "", "10", "2"},
	})
	play(t, layout, []step{
		{"10010r2r1", "=rr//qq/2", "..B.B", ".w", "", "01", "1"},
		{"10010", "=rg///", "..B.B", ".g", "", "01", "1"},
	})
}

// The foot may be occupied or free, locked or not.
func TestFootDoesNotCount(t *testing.T) {
	play(t, "119/.../a>b,b>c/aA,bB", []step{
		{"000r2r1", "=rr//qq/21", ".AB", "ww", "", "11", ""},
	})
}

// A switch that is wanted otherwise is left alone while something is on it, or
// a route holds it.
func TestSwitchesMayMove(t *testing.T) {
	play(t, "919/.yy.../a>b+d!c-,e>c+f/aA,eB", []step{ // occupied
		{"101000++r1", "=rr/../q/", "......", "..", "++", "00", "1"},
		{"101000+-", "=rr/..//", "......", "..", "++", "00", "1"},
		{"100000++", "=rr/.-//1", ".A.A..", "w.", "+-", "10", ""},
	})
	play(t, "919/.yy.../a>b+d!c-,e>c+f/aA,eB", []step{ // locked by B, then free
		{"100010++r2r1", "=rr/../qq/2", "..B..B", ".w", "++", "01", "1"},
		{"100010++", "=rg/..//", "..B..B", ".g", "++", "01", "1"},
		{"101000++", "=rr/..//", "..B..B", ".t", "++", "01", "1"},
		{"101001++", "=rr/..//", "..B..B", ".t", "++", "01", "1"},
		{"100001++", "=rr/.-//1", ".A.A.B", "wt", "+-", "11", ""},
	})
	play(t, "919/.yy.../a>b+d!c-,e>c+f/aA,eB", []step{ // in the flank of A, until A is idle
		{"100010++r1r2", "=rr/.-/qq/1", ".A.A..", "w.", "+-", "10", "2"},
		{"100010+-", "=gr/..//", ".A.A..", "g.", "+-", "10", "2"},
		{"110010+-", "=rr/..//", ".A.A..", "t.", "+-", "10", "2"},
		{"010110+-", "=rr/..//", ".A.A..", "t.", "+-", "10", "2"},
		{"000110+-", "=rr/..//", "...A..", "t.", "+-", "10", "2"},
		{"000110+-", "=rr/.+//2", "..B..B", ".w", "++", "11", ""},
	})
}

// A switch that is wanted already may be held, and something may be on it.
func TestSwitchesAreWantedAlready(t *testing.T) {
	play(t, "919/.yy.../a>b+d!c+,e>c+f/aA,eB", []step{
		{"100010++r2r1", "=rr/../qq/21", ".ABA.B", "ww", "++", "11", ""},
	})
	play(t, "919/.yy.../a>b+d!c+,e>c+f/aA,eB", []step{
		{"100010++r1r2", "=rr/../qq/12", ".ABA.B", "ww", "++", "11", ""},
	})
	play(t, "919/.yy.../a>b+d!c+,e>c+f/aA,eB", []step{
		{"101010+?r1", "=rr/../q/1", ".A.A..", "w.", "++", "10", ""},
	})
	play(t, "919/.y..../a>c!b-,d>e!b-/aA,dB", []step{ // in two flanks
		{"100100+r1r2", "=rr/-/qq/12", "..A.B.", "ww", "-", "11", ""},
	})
	play(t, "919/.y..../a>c!b-,d>e!b+/aA,dB", []step{
		{"100100+r1r2", "=rr/-/qq/1", "..A...", "w.", "-", "10", "2"},
	})
}

func TestOnlySafeGrants(t *testing.T) {
	play(t, line, []step{
		{"10000001++r1", "=rrrrrr/../q/1", "..AA....", "w.....", "++", "10", ""},
		{"10000001++r2", "=grrrrr/../q/", "..AA....", "g.....", "++", "10", "2"}, // 11 is not safe, though D is free
		{"10000001++", "=grrrrr/..//", "..AA....", "g.....", "++", "10", "2"},
	})
	// Train 2 may have d only once train 1 has left a, where train 2 goes next.
	const layout = "119/..../a>b,b>d,c>d,d>a/aAB,cCD"
	play(t, layout, []step{
		{"1010r2", "=rrrr//q/", "....", "....", "", "00", "2"},
		{"1010r1", "=rrrr//q/1", ".A..", "w...", "", "10", "2"},
		{"1010", "=grrr///2", ".A.C", "g.w.", "", "11", ""},
	})
	play(t, layout, []step{
		{"1010r1r2", "=rrrr//qq/12", ".A.C", "w.w.", "", "11", ""},
	})
}

// The front of the queue comes first; one that must wait keeps its place and
// lets those behind it by.
func TestOrderOfTheQueue(t *testing.T) {
	const layout = "119/....../a>d,b>d,c>e/aA,bB,cC"
	play(t, layout, []step{
		{"111000r1r2r3", "=rrr//qqq/13", "...AC.", "w.w", "", "101", "2"},
	})
	play(t, layout, []step{
		{"111000r3r2r1", "=rrr//qqq/32", "...BC.", ".ww", "", "011", "1"},
	})
	play(t, layout, []step{
		{"111100r2r1r3", "=rrr//qqq/3", "....C.", "..w", "", "001", "21"},
		{"111100", "=rrg///", "....C.", "..g", "", "001", "21"},
		{"111000", "=rrg///2", "...BC.", ".wg", "", "011", "1"},
	})
}

// What a grant wants of a switch counts for those behind it.
func TestGrantsMeetGrantsAhead(t *testing.T) {
	play(t, "919/.y..../a>b+c,d>e!b-/aA,dB", []step{
		{"100100+r1r2", "=rr/./qq/1", ".AA...", "w.", "+", "10", "2"},
	})
	play(t, "919/.y..../a>b+c,d>e!b-/aA,dB", []step{
		{"100100+r2r1", "=rr/-/qq/2", "....B.", ".w", "-", "01", "1"},
	})
	play(t, "919/.y..../a>b-c,d>e!b-/aA,dB", []step{
		{"100100+r2r1", "=rr/-/qq/21", ".AA.B.", "ww", "-", "11", ""},
	})
}

// A switch is to move for a route that waits, and for no other.
func TestMoves(t *testing.T) {
	const layout = "919/.y.y../a>b-c,d>ef/aA,dB"
	play(t, layout, []step{
		{"100100?-", "=rr/..//", "......", "..", "++", "00", ""}, // no route wants them
		{"100100+?r2", "=rr/../q/2", "....BB", ".w", "++", "01", ""},
		{"100100+-r1", "=rg/-./q/1", ".AA.BB", "wg", "-+", "11", ""},
		{"110100+-", "=rg/..//", ".AA.BB", "wg", "-+", "11", ""},
		{"100100--", "=gg/..//", ".AA.BB", "gg", "-+", "11", ""},
		{"110100+-", "=rg/..//", ".AA.BB", "tg", "-+", "11", ""},
		{"100100+-", "=rg/..//", ".AA.BB", "tg", "-+", "11", ""}, // a passing route moves none
	})
}
