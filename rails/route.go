package rails

import (
	"rails/api"
	"rails/frames"
	"rails/plan"
)

// routeState is a route at work. It keeps its own locks: they are laid all at
// once and released one at a time from the first on, so a count tells them; an
// idle route has none.
type routeState struct {
	route    plan.Route
	phase    byte
	train    int    // for which the route is set, if it is
	wasGreen bool   // since it was granted
	count    int    // of the cycles for which it is still kept, if it is dropped
	marked   []bool // for each section of the path
	freed    int    // how many sections of the path have been released
}

func (r *routeState) isSet() bool { return r.phase != api.Idle }

// set is what a grant makes of a route.
func (r *routeState) set(train int) {
	r.phase = api.Waiting
	r.train = train
	r.wasGreen = false
	r.marked = make([]bool, len(r.route.Path))
	r.freed = 0
}

// locks tells whether a section is locked by the route.
func (r *routeState) locks(section int) bool {
	if !r.isSet() {
		return false
	}
	for i, item := range r.route.Path {
		if i >= r.freed && item.Section == section {
			return true
		}
	}
	return false
}

// mayDrop tells whether the route is set, no train passes it, and it is not
// dropped already.
func (r *routeState) mayDrop() bool {
	return r.phase == api.Waiting || r.phase == api.Green || r.phase == api.Failed
}

// drop takes the route's green away for good. A train at the foot that may
// have seen it may not be able to stop: for it the route is kept some cycles.
func (r *routeState) drop(seen frames.Frame, cycles int) {
	r.phase = api.Dropped
	r.count = 0
	if r.wasGreen && seen.Occupied(r.route.Foot) {
		r.count = cycles
	}
}

// step takes the route one step on, by its phase; broken is whether one of its
// switches has failed. It answers whether the route is given up unused.
func (r *routeState) step(seen frames.Frame, broken bool) bool {
	switch r.phase {
	case api.Waiting:
		r.stepWaiting(seen, broken)
	case api.Green:
		r.stepGreen(seen, broken)
	case api.Passing:
		r.stepPassing(seen)
	case api.Dropped:
		return r.stepDropped(seen)
	}
	return false
}

func (r *routeState) stepWaiting(seen frames.Frame, broken bool) {
	if broken {
		r.phase = api.Failed
		return
	}
	if r.isReady(seen) {
		r.phase = api.Green
		r.wasGreen = true
	}
}

func (r *routeState) stepGreen(seen frames.Frame, broken bool) {
	if seen.Occupied(r.sectionAt(0)) {
		r.enter()
		return
	}
	if broken {
		r.phase = api.Failed
		return
	}
	if !r.isReady(seen) {
		r.phase = api.Waiting
	}
}

// enter is what becomes of the route when a train comes onto it.
func (r *routeState) enter() {
	r.phase = api.Passing
	for i := range r.marked {
		r.marked[i] = i == 0
	}
}

func (r *routeState) stepPassing(seen frames.Frame) {
	r.markOccupied(seen)
	if !r.mayRelease(seen) {
		return
	}
	r.freed++
	if r.freed == len(r.route.Path) {
		r.phase = api.Idle
	}
}

func (r *routeState) stepDropped(seen frames.Frame) bool {
	if seen.Occupied(r.sectionAt(0)) {
		r.enter()
		return false
	}
	if r.count > 0 {
		r.count--
		return false
	}
	if !isFree(r.route.Path, seen) {
		return false
	}
	r.phase = api.Idle
	return true
}

// isReady tells whether all switches are reported as the route wants them and
// its path is free.
func (r *routeState) isReady(seen frames.Frame) bool {
	for _, item := range r.route.Switches() {
		if !seen.ReportedAs(item.Section, item.Sign) {
			return false
		}
	}
	return isFree(r.route.Path, seen)
}

func isFree(path []plan.Item, seen frames.Frame) bool {
	for _, item := range path {
		if seen.Occupied(item.Section) {
			return false
		}
	}
	return true
}

func (r *routeState) markOccupied(seen frames.Frame) {
	for i := range r.marked {
		if seen.Occupied(r.sectionAt(i)) {
			r.marked[i] = true
		}
	}
}

// mayRelease tells whether the train has left the first section of the path
// that is still locked, or, if that is the last, has come into it whole.
func (r *routeState) mayRelease(seen frames.Frame) bool {
	if !r.isMarked(r.freed) {
		return false
	}
	if r.freed == len(r.route.Path)-1 {
		return !seen.Occupied(r.sectionAt(r.freed - 1))
	}
	return !seen.Occupied(r.sectionAt(r.freed)) && r.isMarked(r.freed+1)
}

func (r *routeState) isMarked(place int) bool {
	return place >= 0 && place < len(r.marked) && r.marked[place]
}

// sectionAt answers the section at a place of the path; ahead of the first
// stands the foot.
func (r *routeState) sectionAt(place int) int {
	if place < 0 || place >= len(r.route.Path) {
		return r.route.Foot
	}
	return r.route.Path[place].Section
}
