package rails

import (
	"rails/api"
	"rails/frames"
	"rails/plan"
)

// Box is an interlocking at work.
type Box struct {
	lay      plan.Layout
	routes   []routeState
	switches []switchState // for each section, though not each has a switch
	granted  []int         // for each train, how many routes of its journey it has
	queue    []int
}

// stepRoutes takes each route one step on (P9).
func (b *Box) stepRoutes(seen frames.Frame) {
	for i := range b.routes {
		broken := b.anyFailed(b.routes[i].route.Switches())
		givenUp := b.routes[i].step(seen, broken)
		if givenUp {
			b.putBack(b.routes[i].train)
		}
	}
}

// putBack takes from a train the route that was granted to it last.
func (b *Box) putBack(train int) {
	if train >= 0 && train < len(b.granted) {
		b.granted[train]--
	}
}

// obey does the commands (P10) and answers a byte for each.
func (b *Box) obey(seen frames.Frame) []byte {
	var replies []byte
	for _, command := range seen.Commands {
		var reply byte
		switch command.Kind {
		case frames.Request:
			reply = b.request(command.Number)
		case frames.Cancel:
			reply = b.cancel(command.Number, seen)
		case frames.Mend:
			reply = b.mend(command.Number)
		}
		replies = append(replies, reply)
	}
	return replies
}

// cancel drops a route, if it may be dropped, and answers the byte for it.
func (b *Box) cancel(number int, seen frames.Frame) byte {
	if number < 0 || number >= len(b.routes) || !b.routes[number].mayDrop() {
		return 'n'
	}
	b.routes[number].drop(seen, b.lay.D)
	return 'k'
}

// lockedBy answers the number of the route by which a section is locked.
func (b *Box) lockedBy(section int) (int, bool) {
	for i := range b.routes {
		if b.routes[i].locks(section) {
			return i, true
		}
	}
	return 0, false
}

func (b *Box) isLocked(section int) bool {
	_, locked := b.lockedBy(section)
	return locked
}

// isHeld tells whether the switch of a section must stay as it is wanted.
func (b *Box) isHeld(section int) bool {
	for i := range b.routes {
		if b.routes[i].isSet() && plan.Names(b.routes[i].route.Flank, section) {
			return true
		}
	}
	return b.isLocked(section)
}

// isAwaited tells whether a route waits for the switch of a section.
func (b *Box) isAwaited(section int) bool {
	for _, r := range b.routes {
		if r.phase == api.Waiting && plan.Names(r.route.Switches(), section) {
			return true
		}
	}
	return false
}

func (b *Box) hasRouteSet(train int) bool {
	for i := range b.routes {
		if b.routes[i].isSet() && b.routes[i].train == train {
			return true
		}
	}
	return false
}

// nextRoute answers the number of the route that a train takes next, or false
// if all routes of its journey have been granted.
func (b *Box) nextRoute(train int) (int, bool) {
	if !b.lay.HasTrain(train) || train >= len(b.granted) {
		return 0, false
	}
	journey := b.lay.Trains[train].Journey
	count := b.granted[train]
	if count < 0 || count >= len(journey) {
		return 0, false
	}
	return journey[count], true
}
