package frames_test

import (
	"reflect"
	"strings"
	"testing"

	"rails/api"
	"rails/frames"
	"rails/plan"
)

func read(t *testing.T, text string) plan.Layout {
	t.Helper()
	lay, e, _ := plan.Read(text)
	if e != api.OK {
		t.Fatalf("Read(%q): %d", text, e)
	}
	return lay
}

func TestReadKeepsWhatTheFrameSays(t *testing.T) {
	lay := read(t, "111/.y.yy/a>b+c,c>d-e-/aA,cB")
	seen, ok := frames.Read(lay, "10110+?-r2cAmecBr1")
	if !ok {
		t.Fatalf("no frame")
	}
	for section, occupied := range []bool{true, false, true, true, false} {
		if seen.Occupied(section) != occupied {
			t.Errorf("section %d: occupied %v", section, !occupied)
		}
	}
	for section, sign := range []byte{0, '+', 0, '?', '-'} {
		for _, other := range []byte("+-?") {
			if seen.ReportedAs(section, other) != (other == sign) {
				t.Errorf("section %d: reported as %c: %v", section, other, other != sign)
			}
		}
	}
	want := []frames.Command{
		{Kind: frames.Request, Number: 1}, {Kind: frames.Cancel, Number: 0}, {Kind: frames.Mend, Number: 4},
		{Kind: frames.Cancel, Number: 1}, {Kind: frames.Request, Number: 0},
	}
	if !reflect.DeepEqual(seen.Commands, want) {
		t.Errorf("commands %+v, want %+v", seen.Commands, want)
	}
}

func TestWhatIsNoFrame(t *testing.T) {
	lay := read(t, "111/.y./a>b+c/aA")
	for _, text := range []string{"", "100", "10+", "1000+", "100++", "100+r", "100+r2", "100+cB", "100+ma", "100+mc", "102+", "100 ", "100+r1x", "100+" + strings.Repeat("r1", 31)} {
		seen, ok := frames.Read(lay, text)
		if ok || !reflect.DeepEqual(seen, frames.Frame{}) {
			t.Errorf("Read(%q) = %+v, %v", text, seen, ok)
		}
	}
	for _, text := range []string{"100+", "011-", "000?mb", "100+" + strings.Repeat("r1", 30)} {
		if _, ok := frames.Read(lay, text); !ok {
			t.Errorf("Read(%q): no frame", text)
		}
	}
}

func TestSectionsThatAreNotThere(t *testing.T) {
	seen, _ := frames.Read(read(t, "111/.y./a>b+c/aA"), "111+")
	for _, section := range []int{-1, 3, 99} {
		if seen.Occupied(section) || seen.ReportedAs(section, '+') || seen.ReportedAs(section, plan.NoSign) {
			t.Errorf("section %d is there", section)
		}
	}
}
