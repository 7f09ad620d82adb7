package plan_test

import (
	"reflect"
	"testing"

	"rails/api"
	"rails/plan"
)

func TestReadKeepsWhatTheTextSays(t *testing.T) {
	lay, e, place := plan.Read("129/.yy./a>b+d!c-b+,p>c/aAL,dB")
	if e != api.OK || place != 0 {
		t.Fatalf("Read = %d, %d", e, place)
	}
	want := plan.Layout{
		T: 1, D: 2, Q: 9,
		Switches: []bool{false, true, true, false},
		Routes: []plan.Route{
			{Foot: 0, Path: []plan.Item{{Section: 1, Sign: '+'}, {Section: 3}}, Flank: []plan.Item{{Section: 2, Sign: '-'}, {Section: 1, Sign: '+'}}},
			{Foot: 15, Path: []plan.Item{{Section: 2}}},
		},
		Trains: []plan.Train{{Start: 0, Journey: []int{0, 11}}, {Start: 3, Journey: []int{1}}},
	}
	if !reflect.DeepEqual(lay, want) {
		t.Errorf("Read = %+v, want %+v", lay, want)
	}
}

func TestReadWithErrorAnswersNoLayout(t *testing.T) {
	for _, text := range []string{"", "129/.yy./a>b+d!c", "129/.yy./a>b/aA/"} {
		lay, e, _ := plan.Read(text)
		if e != api.ErrForm || !reflect.DeepEqual(lay, plan.Layout{}) {
			t.Errorf("Read(%q) = %+v, %d", text, lay, e)
		}
	}
}

func TestWhatIsNotThere(t *testing.T) {
	lay := plan.Layout{Switches: []bool{false, true}, Routes: []plan.Route{{Foot: 1}}}
	for _, n := range []int{-1, 2, 99} {
		if lay.HasSection(n) || lay.HasSwitch(n) {
			t.Errorf("section %d is there", n)
		}
		if _, ok := lay.RouteAt(n); ok {
			t.Errorf("route %d is there", n)
		}
	}
	if !lay.HasSection(1) || !lay.HasSwitch(1) || !lay.HasSection(0) || lay.HasSwitch(0) {
		t.Errorf("the sections are not as the layout has them")
	}
	route, ok := lay.RouteAt(0)
	if !ok || route.Foot != 1 || route.Last() != -1 {
		t.Errorf("RouteAt(0) = %+v, %v", route, ok)
	}
}
