package rails_test

import (
	"fmt"
	"slices"
	"strings"
	"testing"

	"rails/api"
	"rails/rails"
)

// told is all that a box tells when it is asked.
type told struct{ locks, phases, switches, at, queue string }

func askBox(b *rails.Box) told {
	return told{b.Locks(), b.Phases(), b.Switches(), b.At(), b.Queue()}
}

func newBox(t *testing.T, layout string) *rails.Box {
	t.Helper()
	b, e := rails.New(layout)
	if b == nil || e != api.OK {
		t.Fatalf("P6: New(%q) = %v, %d", layout, b, e)
	}
	return b
}

// replay answers a box behind some frames.
func replay(t *testing.T, layout string, frames []string) *rails.Box {
	t.Helper()
	b := newBox(t, layout)
	for _, frame := range frames {
		b.Cycle(frame)
	}
	return b
}

// frameOf draws a frame that fits a box: most of what it says helps the trains
// on, the rest is as may be.
func (d *draw) frameOf(b *toldBox) string {
	frame := ""
	for n := range b.lay.sections {
		frame += d.occupancy(b, letter(n))
	}
	for _, section := range b.switches() {
		if d.below(3) > 0 {
			frame += b.wanted[string(section)]
		} else {
			frame += d.oneOf("+-?")
		}
	}
	for d.below(2) == 0 && len(frame) < 63 {
		frame += d.commandOf(b)
	}
	return frame
}

// occupancy is 1 often where a train is awaited or ready to go, else 0 most often.
func (d *draw) occupancy(b *toldBox, section string) string {
	for n, r := range b.lay.routes {
		if r.foot == section && strings.Contains("gfd", b.phase[capital(n)]) {
			return d.oneOf("01")
		}
	}
	switch phase := b.phase[b.lock[section]]; {
	case phase == "t":
		return d.oneOf("01")
	case phase == "g" || phase == "d":
		return d.oneOf("0001")
	}
	return d.oneOf("000000000001")
}

func (d *draw) commandOf(b *toldBox) string {
	switch n := d.below(8); {
	case n == 0:
		return "c" + capital(d.below(len(b.lay.routes)))
	case n <= 2 && b.switches() != "":
		return "m" + d.oneOf(b.switches())
	}
	return "r" + digit(d.below(len(b.lay.trains)))
}

// compare hands a frame to the program and to the second reading of the
// document, and tells whether they say the same of it.
func compare(t *testing.T, layout string, frames []string, frame string, b *rails.Box, oracle *toldBox) bool {
	t.Helper()
	want := oracle.cycle(frame)
	got := b.Cycle(frame)
	if got != want {
		t.Errorf("P7 to P12: %q, behind %q: Cycle(%q) = %q, want %q", layout, frames, frame, got, want)
		return false
	}
	if is := askBox(b); is != oracle.tells() {
		t.Errorf("P13: %q, behind %q: Cycle(%q) makes %+v, want %+v", layout, frames, frame, is, oracle.tells())
		return false
	}
	return true
}

// walk goes a way of drawn frames, texts that are none among them.
func walk(t *testing.T, d *draw, layout string, length int) {
	t.Helper()
	b, oracle := newBox(t, layout), newToldBox(layout)
	var frames []string
	for range length {
		frame := d.frameOf(oracle)
		if d.below(10) == 0 {
			frame = d.changed(frame)
		}
		if !compare(t, layout, frames, frame, b, oracle) {
			return
		}
		frames = append(frames, frame)
	}
}

// timed answers the layout with other times, small ones most often.
func (d *draw) timed(layout string) string {
	return fmt.Sprintf("%d%d%d", 1+d.below(3), 1+d.below(1+d.below(9)), 1+d.below(9)) + layout[3:]
}

func TestWalksOfGoodLayouts(t *testing.T) {
	d := &draw{seed: 11}
	for _, layout := range slices.Concat(goodLayouts, boxLayouts) {
		for range 60 {
			walk(t, d, layout, 120)
			walk(t, d, d.timed(layout), 120)
		}
	}
}

func TestWalksOfDrawnLayouts(t *testing.T) {
	d := &draw{seed: 12}
	for n := 0; n < 1500; {
		layout := d.layout()
		if n%3 == 0 {
			layout = d.shuttle()
		}
		if e, _ := rails.Check(layout); e == api.OK {
			walk(t, d, layout, 60)
			n++
		}
	}
}

// allFrames answers every frame with at most so many commands.
func allFrames(b *toldBox, most int) []string {
	frames := []string{""}
	for range b.lay.sections {
		frames = withEach(frames, "0", "1")
	}
	for range b.switches() {
		frames = withEach(frames, "+", "-", "?")
	}
	var commands []string
	for n := range b.lay.trains {
		commands = append(commands, "r"+digit(n))
	}
	for n := range b.lay.routes {
		commands = append(commands, "c"+capital(n))
	}
	for _, section := range b.switches() {
		commands = append(commands, "m"+string(section))
	}
	all := frames
	for range most {
		frames = withEach(frames, commands...)
		all = append(all, frames...)
	}
	return all
}

func withEach(begins []string, ends ...string) []string {
	var all []string
	for _, begin := range begins {
		for _, end := range ends {
			all = append(all, begin+end)
		}
	}
	return all
}

// Of small layouts every frame is handed to a box in every state to which
// frames can bring it.
func TestEveryFrameInEveryState(t *testing.T) {
	for _, c := range []struct {
		layout   string
		commands int
	}{
		{"111/../a>b/aA", 2},
		{"111/../a>b,b>a/aABA", 2},
		{"121/.../a>bc/aA", 2},
		{"112/.../a>b,c>b/aA,cB", 2},
		{"321/.y/a>b-/aA", 2},
		{"211/.y./a>c!b-/aA", 2},
		{"119/.y../a>b-cd/aA", 1},
		{"212/.y./a>b+,b>c/aAB", 1},
		{"111/.y./a>b+,c>b-/aA,cB", 1},
		{"111/.y../a>b+d,c>d!b-/aA,cB", 1},
	} {
		t.Run(c.layout, func(t *testing.T) {
			t.Parallel()
			exploreAll(t, c.layout, c.commands)
		})
	}
}

func exploreAll(t *testing.T, layout string, commands int) {
	t.Helper()
	first := newToldBox(layout)
	every := allFrames(first, commands)
	seen := map[string]bool{first.key(): true}
	for ways := [][]string{nil}; len(ways) > 0; ways = ways[1:] {
		way := ways[0]
		here := newToldBox(layout)
		for _, frame := range way {
			here.cycle(frame)
		}
		for _, frame := range every {
			there := here.clone()
			if !compare(t, layout, way, frame, replay(t, layout, way), there) {
				return
			}
			if !seen[there.key()] {
				seen[there.key()] = true
				ways = append(ways, append(slices.Clone(way), frame))
			}
		}
	}
}

// Boxes beside each other and questions in between change nothing.
func TestBoxesSideBySide(t *testing.T) {
	d := &draw{seed: 13}
	for _, layout := range slices.Concat(goodLayouts, boxLayouts) {
		oracle := newToldBox(layout)
		asked, other := newBox(t, layout), newBox(t, layout)
		var frames, answers []string
		for range 40 {
			frame := d.frameOf(oracle)
			oracle.cycle(frame)
			before := askBox(asked)
			for range d.below(4) {
				other.Cycle(d.frameOf(oracle))
				other.Locks()
				if is := askBox(asked); is != before {
					t.Fatalf("P2, P13: %q, behind %q: %+v, at first %+v", layout, frames, is, before)
				}
			}
			frames = append(frames, frame)
			answers = append(answers, asked.Cycle(frame))
		}
		alone := newBox(t, layout)
		for i, frame := range frames {
			if got := alone.Cycle(frame); got != answers[i] {
				t.Fatalf("P2: %q, behind %q: Cycle(%q) = %q, beside others %q", layout, frames[:i], frame, got, answers[i])
			}
		}
		if askBox(alone) != askBox(asked) {
			t.Errorf("P2: %q, behind %q: %+v, beside others %+v", layout, frames, askBox(alone), askBox(asked))
		}
	}
}
