package plan_test

import (
	"reflect"
	"testing"

	"rails/api"
	"rails/plan"
)

func TestReadKeepsWhatTheTextSays(t *testing.T) {
	lay, e, place := plan.Read("129/.yy./a>b+d!c-b+,p>c/aAL,dB")
	if e != api.OK || place != 0 {
		t.Fatalf("Read = %d, %d", e, place)
	}
	want := plan.Layout{
		T: 1, D: 2, Q: 9,
		Switches: []bool{false, true, true, false},
		Routes: []plan.Route{
			{Foot: 0, Path: []plan.Item{{Section: 1, Sign: '+'}, {Section: 3}}, Flank: []plan.Item{{Section: 2, Sign: '-'}, {Section: 1, Sign: '+'}}},
			{Foot: 15, Path: []plan.Item{{Section: 2}}},
		},
		Trains: []plan.Train{{Start: 0, Journey: []int{0, 11}}, {Start: 3, Journey: []int{1}}},
	}
	if !reflect.DeepEqual(lay, want) {
		t.Errorf("Read = %+v, want %+v", lay, want)
	}
}

func TestReadWithErrorAnswersNoLayout(t *testing.T) {
	for _, text := range []string{"", "129/.yy./a>b+d!c", "129/.yy./a>b/aA/"} {
		lay, e, _ := plan.Read(text)
		if e != api.ErrForm || !reflect.DeepEqual(lay, plan.Layout{}) {
			t.Errorf("Read(%q) = %+v, %d", text, lay, e)
		}
	}
}

func TestWhatIsNotThere(t *testing.T) {
	lay := plan.Layout{Switches: []bool{false, true}, Routes: []plan.Route{{Foot: 1}}, Trains: []plan.Train{{Start: 1}, {Start: 0}}}
	for _, n := range []int{-1, 2, 99} {
		if lay.HasSection(n) || lay.HasSwitch(n) {
			t.Errorf("section %d is there", n)
		}
		if _, ok := lay.RouteAt(n); ok || lay.HasRoute(n) {
			t.Errorf("route %d is there", n)
		}
		if lay.HasTrain(n) {
			t.Errorf("train %d is there", n)
		}
	}
	if !lay.HasSection(1) || !lay.HasSwitch(1) || !lay.HasSection(0) || lay.HasSwitch(0) {
		t.Errorf("the sections are not as the layout has them")
	}
	if !lay.HasTrain(0) || !lay.HasTrain(1) {
		t.Errorf("the trains are not there")
	}
	route, ok := lay.RouteAt(0)
	if !ok || !lay.HasRoute(0) || route.Foot != 1 || route.Last() != -1 {
		t.Errorf("RouteAt(0) = %+v, %v", route, ok)
	}
}

func TestSwitchesOfRoute(t *testing.T) {
	lay, _, _ := plan.Read("111/.y.yy./a>b+cd-f!e+,a>c,a>c!b-e+/aA")
	for i, want := range [][]plan.Item{
		{{Section: 1, Sign: '+'}, {Section: 3, Sign: '-'}, {Section: 4, Sign: '+'}},
		nil,
		{{Section: 1, Sign: '-'}, {Section: 4, Sign: '+'}},
	} {
		if is := lay.Routes[i].Switches(); !reflect.DeepEqual(is, want) {
			t.Errorf("route %d: Switches = %+v, want %+v", i, is, want)
		}
	}
}

func TestNamesOfItems(t *testing.T) {
	items := []plan.Item{{Section: 2}, {Section: 4, Sign: '+'}}
	for section := -1; section < 6; section++ {
		if plan.Names(items, section) != (section == 2 || section == 4) {
			t.Errorf("Names tells the other of section %d", section)
		}
	}
}
