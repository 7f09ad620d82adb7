// Package frames: what a box is handed in a cycle, read from its text.
package frames

import (
	"rails/api"
	"rails/plan"
)

// The kinds of command.
const (
	Request byte = 'r'
	Cancel  byte = 'c'
	Mend    byte = 'm'
)

// Command is one of the orders that a frame brings.
type Command struct {
	Kind   byte
	Number int // of the train, the route or the section with the switch
}

// Frame is what a box sees of its railway, and what is asked of it.
type Frame struct {
	Commands []Command
	occupied []bool // for each section
	reported []byte // for each section, how its switch is reported
}

// Occupied tells whether a section is occupied.
func (seen Frame) Occupied(section int) bool {
	return section >= 0 && section < len(seen.occupied) && seen.occupied[section]
}

// ReportedAs tells whether the switch of a section is reported to lie as a sign says.
func (seen Frame) ReportedAs(section int, sign byte) bool {
	return section >= 0 && section < len(seen.reported) && seen.reported[section] == sign
}

// Read answers the frame that a text is, or false if it is none of the layout.
func Read(lay plan.Layout, text string) (Frame, bool) {
	if len(text) > api.MaxFrame {
		return Frame{}, false
	}
	var seen Frame
	c := cursor{text: text}
	ok := c.sections(lay, &seen)
	ok = ok && c.switches(lay, &seen)
	ok = ok && c.commands(lay, &seen)
	if !ok {
		return Frame{}, false
	}
	return seen, true
}

// cursor goes through a text, byte by byte.
type cursor struct {
	text string
	at   int
}

// next steps over a byte and answers it. At the end it answers 0, which stands
// nowhere in a frame.
func (c *cursor) next() byte {
	if c.at >= len(c.text) {
		return 0
	}
	b := c.text[c.at]
	c.at++
	return b
}

func (c *cursor) sections(lay plan.Layout, seen *Frame) bool {
	for range lay.Switches {
		b := c.next()
		if b != '0' && b != '1' {
			return false
		}
		seen.occupied = append(seen.occupied, b == '1')
	}
	return true
}

func (c *cursor) switches(lay plan.Layout, seen *Frame) bool {
	for _, has := range lay.Switches {
		b := plan.NoSign
		if has {
			b = c.next()
			if b != '+' && b != '-' && b != '?' {
				return false
			}
		}
		seen.reported = append(seen.reported, b)
	}
	return true
}

func (c *cursor) commands(lay plan.Layout, seen *Frame) bool {
	for c.at < len(c.text) {
		kind := c.next()
		name := c.next()
		number, ok := named(lay, kind, name)
		if !ok {
			return false
		}
		seen.Commands = append(seen.Commands, Command{Kind: kind, Number: number})
	}
	return true
}

// named answers the number of what a command names, or false if the layout
// does not have it.
func named(lay plan.Layout, kind byte, name byte) (int, bool) {
	switch kind {
	case Request:
		train := int(name) - '1'
		return train, lay.HasTrain(train)
	case Cancel:
		route := int(name) - 'A'
		return route, lay.HasRoute(route)
	case Mend:
		section := int(name) - 'a'
		return section, lay.HasSwitch(section)
	}
	return 0, false
}
