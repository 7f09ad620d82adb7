// Package rails: an interlocking for a small railway, cycle by cycle: see DOC.md.
package rails

import (
	"strconv"

	"rails/api"
)

// Box is an interlocking at work.
type Box struct{}

// Check tells whether a text is a layout (P3).
func Check(layout string) (api.Errno, int) {
	_, e, place := load(layout)
	return e, place
}

// Safe tells whether all trains can come through from a state (P4).
func Safe(layout string, at string) (bool, api.Errno) {
	_, safe, e := orderFrom(layout, at)
	return safe, e
}

// Order tells an order in which they can (P5).
func Order(layout string, at string) (string, api.Errno) {
	order, safe, e := orderFrom(layout, at)
	if e != api.OK {
		return "", e
	}
	if !safe {
		return "", api.ErrStuck
	}
	digits := ""
	for _, train := range order {
		digits += strconv.Itoa(train + 1)
	}
	return digits, api.OK
}

// New makes a box of a layout (P6).
func New(layout string) (*Box, api.Errno) { return nil, api.OK }

// Cycle does one cycle (P7 to P12).
func (b *Box) Cycle(frame string) string { return "" }

// Locks tells by which route each section is locked (P13).
func (b *Box) Locks() string { return "" }

// Phases tells the phase of each route (P13).
func (b *Box) Phases() string { return "" }

// Switches tells as what each switch is wanted, or that it has failed (P13).
func (b *Box) Switches() string { return "" }

// At tells the state of the trains (P13).
func (b *Box) At() string { return "" }

// Queue tells which trains are in the queue (P13).
func (b *Box) Queue() string { return "" }
