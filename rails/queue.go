package rails

import (
	"rails/frames"
	"rails/plan"
	"rails/safety"
)

// request lays a train into the queue, if it may, and answers the byte for it.
func (b *Box) request(train int) byte {
	_, more := b.nextRoute(train)
	if !more {
		return 'd'
	}
	for _, other := range b.queue {
		if other == train {
			return 't'
		}
	}
	if len(b.queue) >= b.lay.Q {
		return 'f'
	}
	b.queue = append(b.queue, train)
	return 'q'
}

// grantFromQueue goes through the queue once (P11) and answers the trains to
// which a route was granted.
func (b *Box) grantFromQueue(seen frames.Frame) []int {
	var served []int
	var left []int
	for _, train := range b.queue {
		granted := b.grantNext(train, seen)
		if granted {
			served = append(served, train)
		} else {
			left = append(left, train)
		}
	}
	b.queue = left
	return served
}

// grantNext grants a train the next route of its journey, or answers false if
// that may not be.
func (b *Box) grantNext(train int, seen frames.Frame) bool {
	number, more := b.nextRoute(train)
	if !more || number < 0 || number >= len(b.routes) {
		return false
	}
	route := b.routes[number].route
	switches := route.Switches()
	if b.hasRouteSet(train) || !b.mayLock(route.Path, seen) || !b.mayWant(switches, seen) {
		return false
	}
	after := oneMore(b.granted, train)
	_, safe := safety.Order(b.lay, after)
	if !safe {
		return false
	}
	b.granted = after
	b.routes[number].set(train)
	for _, item := range switches {
		b.want(item.Section, item.Sign)
	}
	return true
}

func (b *Box) mayLock(path []plan.Item, seen frames.Frame) bool {
	for _, item := range path {
		if b.isLocked(item.Section) {
			return false
		}
	}
	return isFree(path, seen)
}

// mayWant tells whether none of the switches has failed and each is wanted so
// already, or may be moved.
func (b *Box) mayWant(switches []plan.Item, seen frames.Frame) bool {
	if b.anyFailed(switches) {
		return false
	}
	for _, item := range switches {
		if b.isWantedAs(item.Section, item.Sign) {
			continue
		}
		if b.isHeld(item.Section) || seen.Occupied(item.Section) {
			return false
		}
	}
	return true
}

// oneMore answers the state in which a train has one route more granted.
func oneMore(granted []int, train int) []int {
	var after []int
	for i, count := range granted {
		if i == train {
			count++
		}
		after = append(after, count)
	}
	return after
}
