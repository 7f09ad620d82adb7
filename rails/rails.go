// Package rails: an interlocking for a small railway, cycle by cycle: see DOC.md.
package rails

import (
	"strconv"

	"rails/api"
	"rails/frames"
	"rails/safety"
)

// Check tells whether a text is a layout (P3).
func Check(layout string) (api.Errno, int) {
	_, e, place := load(layout)
	return e, place
}

// Safe tells whether all trains can come through from a state (P4).
func Safe(layout string, at string) (bool, api.Errno) {
	_, safe, e := orderFrom(layout, at)
	return safe, e
}

// Order tells an order in which they can (P5).
func Order(layout string, at string) (string, api.Errno) {
	order, safe, e := orderFrom(layout, at)
	if e != api.OK {
		return "", e
	}
	if !safe {
		return "", api.ErrStuck
	}
	return digits(order), api.OK
}

// New makes a box of a layout (P6).
func New(layout string) (*Box, api.Errno) {
	lay, e, _ := load(layout)
	if e != api.OK {
		return nil, e
	}
	b := &Box{lay: lay, granted: safety.AtFirst(lay)}
	for range lay.Switches {
		b.switches = append(b.switches, switchState{wanted: '+'})
	}
	for _, route := range lay.Routes {
		b.routes = append(b.routes, routeState{route: route, phase: api.Idle})
	}
	return b, api.OK
}

// Cycle does one cycle (P7 to P12).
func (b *Box) Cycle(frame string) string {
	seen, ok := frames.Read(b.lay, frame)
	if !ok {
		return "!"
	}
	b.countLate(seen)
	b.stepRoutes(seen)
	replies := b.obey(seen)
	trains := b.grantFromQueue(seen)
	return b.answer(seen, replies, trains)
}

// Locks tells by which route each section is locked (P13).
func (b *Box) Locks() string {
	var text []byte
	for section := range b.lay.Switches {
		number, locked := b.lockedBy(section)
		if locked {
			text = append(text, 'A'+byte(number))
		} else {
			text = append(text, '.')
		}
	}
	return string(text)
}

// Phases tells the phase of each route (P13).
func (b *Box) Phases() string {
	var text []byte
	for _, r := range b.routes {
		text = append(text, r.phase)
	}
	return string(text)
}

// Switches tells as what each switch is wanted, or that it has failed (P13).
func (b *Box) Switches() string {
	var text []byte
	for section, s := range b.switches {
		if !b.lay.HasSwitch(section) {
			continue
		}
		if s.failed {
			text = append(text, 'x')
		} else {
			text = append(text, s.wanted)
		}
	}
	return string(text)
}

// At tells the state of the trains (P13).
func (b *Box) At() string {
	text := ""
	for _, count := range b.granted {
		text += strconv.Itoa(count)
	}
	return text
}

// Queue tells which trains are in the queue (P13).
func (b *Box) Queue() string { return digits(b.queue) }
