// Package safety: the states of the trains, and whether all can come through.
package safety

import "rails/plan"

// train is what counts of a train in a state.
type train struct {
	done  bool
	holds int
	ahead []int // the sections of the paths that have not been granted yet
}

// ReadState answers how many routes have been granted to each train, or false
// if the text is no state of the layout.
func ReadState(lay plan.Layout, at string) ([]int, bool) {
	if len(at) != len(lay.Trains) {
		return nil, false
	}
	var granted []int
	for i := 0; i < len(lay.Trains) && i < len(at); i++ {
		count := int(at[i]) - '0'
		if count < 0 || count > 9 || count > len(lay.Trains[i].Journey) {
			return nil, false
		}
		granted = append(granted, count)
	}
	return granted, true
}

// AtFirst answers the state in which no train has been granted a route.
func AtFirst(lay plan.Layout) []int {
	return make([]int, len(lay.Trains))
}

// Order puts the trains that are not done in an order in which each may run
// once those ahead of it are taken as done. It answers false if there is none.
//
// Whichever train may run is taken first: when it is done it holds nothing, so
// the others may run as before, and no order is lost by it.
func Order(lay plan.Layout, granted []int) ([]int, bool) {
	trains := trainsAt(lay, granted)
	var order []int
	next, found := firstToRun(trains)
	for found {
		trains[next].done = true
		order = append(order, next)
		next, found = firstToRun(trains)
	}
	if !allDone(trains) {
		return nil, false
	}
	return order, true
}

func trainsAt(lay plan.Layout, granted []int) []train {
	var trains []train
	for i := 0; i < len(lay.Trains) && i < len(granted); i++ {
		one := trainAt(lay, lay.Trains[i], granted[i])
		trains = append(trains, one)
	}
	return trains
}

func trainAt(lay plan.Layout, of plan.Train, granted int) train {
	one := train{done: granted >= len(of.Journey), holds: of.Start}
	for i := 0; i < len(of.Journey); i++ {
		route, ok := lay.RouteAt(of.Journey[i])
		if !ok {
			continue
		}
		if i < granted {
			one.holds = route.Last()
			continue
		}
		for _, item := range route.Path {
			one.ahead = append(one.ahead, item.Section)
		}
	}
	return one
}

func firstToRun(trains []train) (int, bool) {
	for i := 0; i < len(trains); i++ {
		if !trains[i].done && mayRun(trains, i) {
			return i, true
		}
	}
	return 0, false
}

func mayRun(trains []train, who int) bool {
	for i, other := range trains {
		if i == who || other.done {
			continue
		}
		if has(trains[who].ahead, other.holds) {
			return false
		}
	}
	return true
}

func has(sections []int, section int) bool {
	for _, one := range sections {
		if one == section {
			return true
		}
	}
	return false
}

func allDone(trains []train) bool {
	for _, one := range trains {
		if !one.done {
			return false
		}
	}
	return true
}
