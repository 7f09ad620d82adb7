package rails

import (
	"rails/api"
	"rails/plan"
	"rails/safety"
)

// load answers the layout that a text is, or the error of Check and its place.
func load(layout string) (plan.Layout, api.Errno, int) {
	lay, e, place := plan.Read(layout)
	if e != api.OK {
		return plan.Layout{}, e, place
	}
	e, place = plan.Check(lay)
	if e != api.OK {
		return plan.Layout{}, e, place
	}
	granted := safety.AtFirst(lay)
	_, safe := safety.Order(lay, granted)
	if !safe {
		return plan.Layout{}, api.ErrUnsafe, 0
	}
	return lay, api.OK, 0
}

// orderFrom answers in which order the trains can come through from a state,
// and whether they can.
func orderFrom(layout string, at string) ([]int, bool, api.Errno) {
	lay, e, _ := load(layout)
	if e != api.OK {
		return nil, false, e
	}
	granted, ok := safety.ReadState(lay, at)
	if !ok {
		return nil, false, api.ErrAt
	}
	order, safe := safety.Order(lay, granted)
	return order, safe, api.OK
}
