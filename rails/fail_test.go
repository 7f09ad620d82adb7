package rails_test

import (
	"fmt"
	"slices"
	"strings"
	"testing"
)

// A switch that is late by T cycles has failed, and not a cycle sooner.
func TestLateByT(t *testing.T) {
	for limit := 1; limit <= 9; limit++ {
		for _, report := range []string{"+", "?"} {
			layout := fmt.Sprintf("%d19/.y./a>b-c/aA", limit)
			steps := []step{{"100" + report + "r1", "=r/-/q/1", ".AA", "w", "-", "1", ""}}
			for range limit - 1 {
				steps = append(steps, step{"100" + report, "=r/-//", ".AA", "w", "-", "1", ""})
			}
			fails := step{"100" + report, "=r/.//", ".AA", "f", "x", "1", ""}
			play(t, layout, append(slices.Clone(steps), fails))
			if limit > 1 { // reported right just in time
				play(t, layout, append(slices.Clone(steps), step{"100-", "=g/.//", ".AA", "g", "-", "1", ""}))
			}
		}
	}
}

// A switch is late only if it is so cycle by cycle: else it begins anew.
func TestLateBeginsAnew(t *testing.T) {
	play(t, "319/.y./a>b-c/aA", []step{
		{"100+r1", "=r/-/q/1", ".AA", "w", "-", "1", ""},
		{"100+", "=r/-//", ".AA", "w", "-", "1", ""},
		{"100?", "=r/-//", ".AA", "w", "-", "1", ""},
		{"101-", "=r/.//", ".AA", "w", "-", "1", ""},
		{"100?", "=r/-//", ".AA", "w", "-", "1", ""},
		{"100+", "=r/-//", ".AA", "w", "-", "1", ""},
		{"100-", "=g/.//", ".AA", "g", "-", "1", ""},
		{"100?", "=r/-//", ".AA", "w", "-", "1", ""},
		{"100?", "=r/-//", ".AA", "w", "-", "1", ""},
		{"0100", "!", ".AA", "w", "-", "1", ""},
		{"100?", "=r/.//", ".AA", "f", "x", "1", ""},
	})
}

// Each switch is late by itself.
func TestEachSwitchIsLateAlone(t *testing.T) {
	play(t, "219/.yy./a>b-c-d/aA", []step{
		{"1000++r1", "=r/--/q/1", ".AAA", "w", "--", "1", ""},
		{"1000-+", "=r/.-//", ".AAA", "w", "--", "1", ""},
		{"1000+-", "=r/-.//", ".AAA", "w", "--", "1", ""},
		{"1000-?", "=r/.-//", ".AAA", "w", "--", "1", ""},
		{"1000+?", "=r/..//", ".AAA", "f", "-x", "1", ""},
		{"1000++", "=r/..//", ".AAA", "f", "xx", "1", ""},
	})
}

// A switch that is not held is never late.
func TestNotHeldIsNotLate(t *testing.T) {
	play(t, "119/.y..y/a>c,c>d,d>b-/aABC", []step{
		{"10000--", "=rrr/..//", ".....", "...", "++", "0", ""},
		{"10000--r1", "=rrr/../q/1", "..A..", "w..", "++", "1", ""},
		{"10000?-", "=grr/..//", "..A..", "g..", "++", "1", ""},
		{"10100--", "=rrr/..//", "..A..", "t..", "++", "1", ""},
	})
	// Late by 1 while it is held, then held no more, then held again.
	play(t, "219/.y.../a>b+c,d>b+e/aA,dB", []step{
		{"10010+r1", "=rr/./q/1", ".AA..", "w.", "+", "10", ""},
		{"10010+", "=gr/.//", ".AA..", "g.", "+", "10", ""},
		{"11010+", "=rr/.//", ".AA..", "t.", "+", "10", ""},
		{"00110-", "=rr/.//", "..A..", "t.", "+", "10", ""}, // late by 1, then released
		{"00110-r2", "=rr/+/q/2", ".B..B", ".w", "+", "11", ""},
		{"00110-", "=rr/+//", ".B..B", ".w", "+", "11", ""},
		{"00110-", "=rr/.//", ".B..B", ".f", "x", "11", ""},
	})
}

// Its section may be occupied.
func TestOccupiedSwitchIsLate(t *testing.T) {
	play(t, "219/.y./a>b+c/aA", []step{
		{"100?r1", "=r/+/q/1", ".AA", "w", "+", "1", ""},
		{"110?", "=r/.//", ".AA", "w", "+", "1", ""},
		{"110?", "=r/.//", ".AA", "f", "x", "1", ""},
	})
}

// A route is held up by the switch of its flank as by one of its path.
func TestFlankFails(t *testing.T) {
	play(t, "219/.y./a>c!b-/aA", []step{
		{"100+r1", "=r/-/q/1", "..A", "w", "-", "1", ""},
		{"100+", "=r/-//", "..A", "w", "-", "1", ""},
		{"100?", "=r/.//", "..A", "f", "x", "1", ""},
	})
	play(t, "219/.y./a>c!b-/aA", []step{
		{"100-r1", "=r/./q/1", "..A", "w", "-", "1", ""},
		{"100-", "=g/.//", "..A", "g", "-", "1", ""},
		{"100+", "=r/-//", "..A", "w", "-", "1", ""},
		{"100+", "=r/.//", "..A", "f", "x", "1", ""},
	})
	// In the flank of A and in the path of B: both have it.
	play(t, "219/.yy.../a>b+d!c+,e>c+f/aA,eB", []step{
		{"100010++r2r1", "=rr/../qq/21", ".ABA.B", "ww", "++", "11", ""},
		{"100010+?", "=rr/.+//", ".ABA.B", "ww", "++", "11", ""},
		{"100010+?", "=rr/..//", ".ABA.B", "ff", "+x", "11", ""},
		{"100010++mccBcA", "=rr/../mkk/", ".ABA.B", "dd", "++", "11", ""},
		{"100010++", "=rr/..//", "......", "..", "++", "00", ""},
	})
	// B has another switch: it goes on.
	play(t, "119/.yy.../a>b+d,e>c+f/aA,eB", []step{
		{"100010++r2r1", "=rr/../qq/21", ".ABA.B", "ww", "++", "11", ""},
		{"100010?+", "=rg/..//", ".ABA.B", "fg", "x+", "11", ""},
		{"100010?-", "=rr/..//", ".ABA.B", "ff", "xx", "11", ""},
	})
}

// In the flank of a route a switch is held until the route is idle, though the
// train has long passed it.
func TestFlankIsLateWhileTheTrainPasses(t *testing.T) {
	play(t, "219/.y../a>cd!b-/aA", []step{
		{"1000-r1", "=r/./q/1", "..AA", "w", "-", "1", ""},
		{"1000-", "=g/.//", "..AA", "g", "-", "1", ""},
		{"1010-", "=r/.//", "..AA", "t", "-", "1", ""},
		{"0011-", "=r/.//", "..AA", "t", "-", "1", ""},
		{"0001?", "=r/.//", "...A", "t", "-", "1", ""},
		{"0001?", "=r/.//", "....", ".", "x", "1", ""},
		{"0001?", "=r/.//", "....", ".", "x", "1", ""},
	})
}

// A train that is on its way goes on, whatever becomes of the switches.
func TestFailsUnderATrain(t *testing.T) {
	play(t, "119/.y./a>b+c/aA", []step{
		{"100+r1", "=r/./q/1", ".AA", "w", "+", "1", ""},
		{"100+", "=g/.//", ".AA", "g", "+", "1", ""},
		{"110?", "=r/.//", ".AA", "t", "x", "1", ""}, // the train is ahead of the failure
		{"011?", "=r/.//", ".AA", "t", "x", "1", ""},
		{"001?mb", "=r/./m/", "..A", "t", "+", "1", ""},
		{"001?", "=r/.//", "...", ".", "+", "1", ""},
	})
	play(t, "219/.y./a>b+c/aA", []step{
		{"100+r1", "=r/./q/1", ".AA", "w", "+", "1", ""},
		{"100+", "=g/.//", ".AA", "g", "+", "1", ""},
		{"110+", "=r/.//", ".AA", "t", "+", "1", ""},
		{"110-", "=r/.//", ".AA", "t", "+", "1", ""},
		{"110-", "=r/.//", ".AA", "t", "x", "1", ""},
		{"001+", "=r/.//", "..A", "t", "x", "1", ""},
	})
}

// A green route whose switch fails has failed: it does not only wait. With a
// path that is occupied behind its first section, too.
func TestGreenFails(t *testing.T) {
	begin := []step{
		{"1000+r1", "=r/./q/1", ".AAA", "w", "+", "1", ""},
		{"1000+", "=g/.//", ".AAA", "g", "+", "1", ""},
	}
	for _, frame := range []string{"1000-", "0000?", "1010?", "1001-", "0011-"} {
		play(t, "119/.y../a>b+cd/aA", append(slices.Clone(begin), step{frame, "=r/.//", ".AAA", "f", "x", "1", ""}))
	}
	for _, frame := range []string{"1100-", "0100?", "0111?"} {
		play(t, "119/.y../a>b+cd/aA", append(slices.Clone(begin), step{frame, "=r/.//", ".AAA", "t", "x", "1", ""}))
	}
}

// A failed route stays as it is until it is cancelled: no train, no sound
// switch and no mending brings it on.
func TestFailedStays(t *testing.T) {
	begin := []step{
		{"1000?r1", "=r/+/q/1", ".AAA", "w", "+", "1", ""},
		{"1000?", "=r/.//", ".AAA", "f", "x", "1", ""},
		{"1000+", "=r/.//", ".AAA", "f", "x", "1", ""},
		{"1100+", "=r/.//", ".AAA", "f", "x", "1", ""},
		{"0111+", "=r/.//", ".AAA", "f", "x", "1", ""},
		{"0001-", "=r/.//", ".AAA", "f", "x", "1", ""},
		{"0000+r1", "=r/./d/", ".AAA", "f", "x", "1", ""},
		{"1000+mb", "=r/./m/", ".AAA", "f", "+", "1", ""},
		{"1000+", "=r/.//", ".AAA", "f", "+", "1", ""},
		{"1100+mb", "=r/./n/", ".AAA", "f", "+", "1", ""},
	}
	play(t, "119/.y../a>b+cd/aA", begin)
	// Its switch is held: it can fail again.
	play(t, "119/.y../a>b+cd/aA", append(slices.Clone(begin),
		step{"1000?", "=r/.//", ".AAA", "f", "x", "1", ""},
		step{"1000+mbmbcAmbcA", "=r/./mnknn/", ".AAA", "d", "+", "1", ""},
		step{"1000+", "=r/.//", "....", ".", "+", "0", ""},
	))
}

// Behind its mending a switch may be late by T once more.
func TestMendedBeginsAnew(t *testing.T) {
	play(t, "319/.y./a>b-c/aA", []step{
		{"100+r1", "=r/-/q/1", ".AA", "w", "-", "1", ""},
		{"100+", "=r/-//", ".AA", "w", "-", "1", ""},
		{"100+", "=r/-//", ".AA", "w", "-", "1", ""},
		{"100+mb", "=r/./m/", ".AA", "f", "-", "1", ""}, // fails and is mended
		{"100+mb", "=r/./n/", ".AA", "f", "-", "1", ""},
		{"100+", "=r/.//", ".AA", "f", "-", "1", ""},
		{"100+", "=r/.//", ".AA", "f", "x", "1", ""},
		{"100+", "=r/.//", ".AA", "f", "x", "1", ""}, // a failed one is not late
		{"100+mb", "=r/./m/", ".AA", "f", "-", "1", ""},
		{"100+", "=r/.//", ".AA", "f", "-", "1", ""},
		{"100+", "=r/.//", ".AA", "f", "-", "1", ""},
		{"100+mb", "=r/./m/", ".AA", "f", "-", "1", ""},
	})
}

// What has failed stays so, though it be reported right and held no more; the
// sign as which it is wanted is not lost by it.
func TestFailedUntilMended(t *testing.T) {
	play(t, "119/.y./a>b-c/aA", []step{
		{"100+r1", "=r/-/q/1", ".AA", "w", "-", "1", ""},
		{"100+cA", "=r/./k/", ".AA", "d", "x", "1", ""},
		{"100-", "=r/.//", "...", ".", "x", "0", ""},
		{"100-", "=r/.//", "...", ".", "x", "0", ""},
		{"010?", "=r/.//", "...", ".", "x", "0", ""},
		{"010?mbmbmb", "=r/./mnn/", "...", ".", "-", "0", ""},
		{"010?", "=r/.//", "...", ".", "-", "0", ""},
	})
}

// No route is granted whose switch has failed, be it in its path or in its
// flank, and be it wanted already; others are.
func TestNoGrantOfAFailedSwitch(t *testing.T) {
	play(t, "119/.y.../a>b+c,d>e!b+/aA,dB", []step{
		{"10010-r1", "=rr/+/q/1", ".AA..", "w.", "+", "10", ""},
		{"10010-cA", "=rr/./k/", ".AA..", "d.", "x", "10", ""},
		{"10010+r1r2", "=rr/./qq/", ".....", "..", "x", "00", "12"},
		{"10010+", "=rr/.//", ".....", "..", "x", "00", "12"},
		{"10010+mb", "=rr/./m/12", ".AA.B", "ww", "+", "11", ""}, // mended ahead of the grants
	})
	play(t, "119/.y..../a>b-c,d>e/aA,dB", []step{
		{"100100+r1", "=rr/-/q/1", ".AA...", "w.", "-", "10", ""},
		{"100100+cA", "=rr/./k/", ".AA...", "d.", "x", "10", ""},
		{"100100-r1r2", "=rr/./qq/2", "....B.", ".w", "x", "01", "1"},
		{"100100-", "=rg/.//", "....B.", ".g", "x", "01", "1"},
		{"100100-mb", "=rg/./m/1", ".AA.B.", "wg", "-", "11", ""},
	})
}

// Mending has no answer but n for a switch that is sound.
func TestNothingToMend(t *testing.T) {
	b := newBox(t, line)
	for _, frame := range []string{"10000001++", "10000001--", "10000001+-r2", "10000001+?", "10000001+?"} {
		answer := b.Cycle(frame + "mcmfmc")
		if parts := strings.Split(answer, "/"); !strings.HasSuffix(parts[2], "nnn") || b.Switches()[:1] != "+" {
			t.Errorf("P10: Cycle(%q) = %q, Switches %q", frame+"mcmfmc", answer, b.Switches())
		}
	}
}
