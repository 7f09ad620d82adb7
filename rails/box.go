package rails

import (
	"rails/api"
	"rails/frames"
	"rails/plan"
)

// Box is an interlocking at work.
type Box struct {
	lay     plan.Layout
	routes  []routeState
	wanted  []byte // for each section, the sign as which its switch is wanted
	granted []int  // for each train, how many routes of its journey it has
	queue   []int
}

func (b *Box) stepRoutes(seen frames.Frame) {
	for i := range b.routes {
		b.routes[i].step(seen)
	}
}

// obey does the commands (P10) and answers a byte for each.
func (b *Box) obey(commands []frames.Command) []byte {
	var replies []byte
	for _, command := range commands {
		reply := byte('n') // no route is dropped yet, and no switch fails
		if command.Kind == frames.Request {
			reply = b.request(command.Number)
		}
		replies = append(replies, reply)
	}
	return replies
}

// lockedBy answers the number of the route by which a section is locked.
func (b *Box) lockedBy(section int) (int, bool) {
	for i := range b.routes {
		if b.routes[i].locks(section) {
			return i, true
		}
	}
	return 0, false
}

func (b *Box) isLocked(section int) bool {
	_, locked := b.lockedBy(section)
	return locked
}

// isHeld tells whether the switch of a section must stay as it is wanted.
func (b *Box) isHeld(section int) bool {
	for i := range b.routes {
		if b.routes[i].isSet() && plan.Names(b.routes[i].route.Flank, section) {
			return true
		}
	}
	return b.isLocked(section)
}

// isAwaited tells whether a route waits for the switch of a section.
func (b *Box) isAwaited(section int) bool {
	for _, r := range b.routes {
		if r.phase == api.Waiting && plan.Names(r.route.Switches(), section) {
			return true
		}
	}
	return false
}

func (b *Box) isWantedAs(section int, sign byte) bool {
	return section >= 0 && section < len(b.wanted) && b.wanted[section] == sign
}

func (b *Box) want(section int, sign byte) {
	if section >= 0 && section < len(b.wanted) {
		b.wanted[section] = sign
	}
}

func (b *Box) hasRouteSet(train int) bool {
	for i := range b.routes {
		if b.routes[i].isSet() && b.routes[i].train == train {
			return true
		}
	}
	return false
}

// nextRoute answers the number of the route that a train takes next, or false
// if all routes of its journey have been granted.
func (b *Box) nextRoute(train int) (int, bool) {
	if !b.lay.HasTrain(train) || train >= len(b.granted) {
		return 0, false
	}
	journey := b.lay.Trains[train].Journey
	count := b.granted[train]
	if count < 0 || count >= len(journey) {
		return 0, false
	}
	return journey[count], true
}
