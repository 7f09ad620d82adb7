package safety_test

import (
	"reflect"
	"testing"

	"rails/api"
	"rails/plan"
	"rails/safety"
)

func read(t *testing.T, text string) plan.Layout {
	t.Helper()
	lay, e, _ := plan.Read(text)
	if e != api.OK {
		t.Fatalf("Read(%q): %d", text, e)
	}
	return lay
}

func TestReadState(t *testing.T) {
	lay := read(t, "111/../a>b,b>a/aAB,bB")
	granted, ok := safety.ReadState(lay, "21")
	if !ok || !reflect.DeepEqual(granted, []int{2, 1}) {
		t.Errorf("ReadState = %v, %v", granted, ok)
	}
	for _, at := range []string{"", "2", "211", "31", "22", "2/", "2:"} {
		granted, ok := safety.ReadState(lay, at)
		if ok || granted != nil {
			t.Errorf("ReadState(%q) = %v, %v", at, granted, ok)
		}
	}
	if first := safety.AtFirst(lay); !reflect.DeepEqual(first, []int{0, 0}) {
		t.Errorf("AtFirst = %v", first)
	}
}

func TestOrderChangesNoState(t *testing.T) {
	lay := read(t, "111/..../a>b,b>c,c>d/aA,bB,cC")
	granted := []int{0, 0, 0}
	for range 2 {
		order, safe := safety.Order(lay, granted)
		if !safe || !reflect.DeepEqual(order, []int{2, 1, 0}) {
			t.Errorf("Order = %v, %v", order, safe)
		}
	}
	if !reflect.DeepEqual(granted, []int{0, 0, 0}) {
		t.Errorf("the state has become %v", granted)
	}
}

func TestOrderOfStuckTrains(t *testing.T) {
	lay := read(t, "111/../a>b,b>a/aA,bB")
	order, safe := safety.Order(lay, []int{0, 0})
	if safe || order != nil {
		t.Errorf("Order = %v, %v", order, safe)
	}
}
