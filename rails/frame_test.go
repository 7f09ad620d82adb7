package rails_test

import (
	"slices"
	"strings"
	"testing"

	"rails/api"
	"rails/rails"
)

// testNoFrame holds a box to P7 for a text that is no frame of it.
func testNoFrame(t *testing.T, b *rails.Box, text string) {
	t.Helper()
	before := askBox(b)
	if answer := b.Cycle(text); answer != "!" {
		t.Errorf("P7: Cycle(%.80q) = %.80q", text, answer)
	}
	if is := askBox(b); is != before {
		t.Errorf("P7: Cycle(%.80q) makes %+v of %+v", text, is, before)
	}
}

func TestNoFrames(t *testing.T) {
	testNoFramesAmong(t, []string{"10000001++r1r2", "10000001++", "10100001++", "00110001++r1"})
	testNoFramesAmong(t, []string{"10000001++r1r2", "10000001++", "10000001++cA", "10000001++", "10000001++", "10000001++"})
	testNoFramesAmong(t, []string{"10000001++r2", "10000001++", "10000001++", "10000001++", "10000001++mfcD", "10000001++r2"})
}

// testNoFramesAmong lays what is no frame of LINE behind each of the frames.
func testNoFramesAmong(t *testing.T, frames []string) {
	t.Helper()
	for n := range len(frames) + 1 {
		b := replay(t, line, frames[:n])
		for _, text := range []string{
			"", "0", "1000000", "10000001", "10000001+", "100000011++", "10000001+++", "10000001+", "++10000001", "10000001r1",
			"1000000?++", "100000a1++", "20000001++", "x0000001++", "1000000100", "1000000101", "10000001.+", "10000001+y",
			"10000001++r", "10000001++c", "10000001++m", "10000001++r1c", "10000001++r1r", "10000001++1r",
			"10000001++r0", "10000001++r3", "10000001++ra", "10000001++rA", "10000001++r+", "10000001++r\x00",
			"10000001++cG", "10000001++cL", "10000001++cM", "10000001++ca", "10000001++c1", "10000001++c@",
			"10000001++ma", "10000001++mb", "10000001++mi", "10000001++mp", "10000001++mq", "10000001++mC", "10000001++m1", "10000001++m`",
			"10000001++d1", "10000001++R1", "10000001++  ", "10000001++r1,r2", "10000001++r1 ", "10000001++ r1", "10000001++\n", "=10000001++",
		} {
			testNoFrame(t, b, text)
		}
		alone := replay(t, line, frames[:n])
		for _, frame := range frames[n:] {
			if got, want := b.Cycle(frame), alone.Cycle(frame); got != want {
				t.Errorf("P7: behind what is no frame Cycle(%q) = %q, want %q", frame, got, want)
			}
		}
	}
}

// Every layout has its own trains, routes and switches to name.
func TestNamesOfCommands(t *testing.T) {
	for _, layout := range slices.Concat(goodLayouts, boxLayouts) {
		oracle := newToldBox(layout)
		begin := strings.Repeat("0", len(oracle.lay.sections)) + strings.Repeat("+", len(oracle.switches()))
		for kind := range 256 {
			for name := range 256 {
				if kind != 'r' && kind != 'c' && kind != 'm' && name%16 != 1 {
					continue
				}
				text := begin + string([]byte{byte(kind), byte(name)})
				b := newBox(t, layout)
				if isFrame := oracle.form.MatchString(text); isFrame != (b.Cycle(text) != "!") {
					t.Errorf("P7: %q: Cycle(%q): a frame: %v", layout, text, isFrame)
				}
			}
		}
	}
}

// A frame has at most 64 bytes, whatever they are.
func TestLengthOfFrames(t *testing.T) {
	for _, c := range []struct {
		layout, begin string
		most          int // commands
	}{
		{"111/../a>b/aA", "11", 31},
		{"111/.../a>b/aA", "110", 30},
		{line, "11111111++", 27},
		{"111/yyyyyyyyyyyyyyyy/a>b+/aA", strings.Repeat("1", 16) + strings.Repeat("+", 16), 16},
		{"111/yyyyyyyyyyyyyyy./a>b+/aA", strings.Repeat("1", 16) + strings.Repeat("+", 15), 16},
	} {
		b := newBox(t, c.layout)
		for n := range 40 {
			text := c.begin + strings.Repeat("cA", n)
			if n > c.most {
				testNoFrame(t, b, text)
				continue
			}
			want := "/" + strings.Repeat("n", n) + "/"
			if answer := b.Cycle(text); !strings.HasSuffix(answer, want) {
				t.Errorf("P7: %q: %d commands: %q", c.layout, n, answer)
			}
		}
	}
}

// Any byte at any place of a frame, and texts of any length.
func TestCycleOfAnyText(t *testing.T) {
	const frame = "10000001++r1cBmfr2"
	oracle := newToldBox(line)
	for i := range len(frame) {
		for first := range 256 {
			text := frame[:i] + string([]byte{byte(first)}) + frame[i+1:]
			b := newBox(t, line)
			if got, want := b.Cycle(text), oracle.clone().cycle(text); got != want {
				t.Errorf("P7: Cycle(%q) = %q, want %q", text, got, want)
			}
		}
	}
	b := newBox(t, line)
	for _, n := range []int{1, 2, 7, 8, 9, 10, 11, 12, 63, 64, 65, 66, 255, 256, 257, 1 << 16, 1 << 24} {
		for _, more := range []string{"0", "1", "+", "?", "r", "r1", "cA", "mc", "\x00", "\xff"} {
			long := strings.Repeat(more, n)
			testNoFrame(t, b, long)
			if n*len(more) > 54 {
				testNoFrame(t, b, "10000001++"+long)
			}
		}
	}
}

// What New refuses it refuses with no box beside.
func TestNewOfAnyText(t *testing.T) {
	for _, n := range []int{0, 1, 256, 257, 1 << 24} {
		for _, more := range []string{"1", "/", "a", "\x00", "\xff"} {
			b, e := rails.New(strings.Repeat(more, n))
			if b != nil || e == api.OK {
				t.Errorf("P6: New of %d times %q = %v, %d", n, more, b, e)
			}
		}
	}
}
