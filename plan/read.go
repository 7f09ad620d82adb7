package plan

import "rails/api"

// Read answers the layout that a text is, by its form alone. The number is
// the place at which the text leaves the form.
func Read(text string) (Layout, api.Errno, int) {
	if len(text) > api.MaxLayout {
		return Layout{}, api.ErrLong, 0
	}
	c := cursor{text: text}
	lay, ok := c.layout()
	if !ok || c.at < len(text) {
		return Layout{}, api.ErrForm, c.at
	}
	return lay, api.OK, 0
}

// cursor goes through a text. It steps over a byte only if the form can go on
// with it, so where a part is refused it stands at the place of the error.
type cursor struct {
	text string
	at   int
}

// peek answers the byte at the cursor, or 0 at the end: the form has no byte 0.
func (c *cursor) peek() byte {
	if c.at >= len(c.text) {
		return 0
	}
	return c.text[c.at]
}

// take steps over a byte, if it is the wanted one.
func (c *cursor) take(want byte) bool {
	if c.peek() != want {
		return false
	}
	c.at++
	return true
}

// takeFrom steps over a byte, if it is one from low to high, and answers how
// far it is above low.
func (c *cursor) takeFrom(low byte, high byte) (int, bool) {
	b := c.peek()
	if b < low || b > high {
		return 0, false
	}
	c.at++
	return int(b - low), true
}

func (c *cursor) takeLetter() (int, bool) { return c.takeFrom('a', 'p') }

func (c *cursor) takeCapital() (int, bool) { return c.takeFrom('A', 'L') }

func (c *cursor) takeSign() byte {
	if c.take('+') {
		return '+'
	}
	if c.take('-') {
		return '-'
	}
	return NoSign
}

func (c *cursor) layout() (Layout, bool) {
	var lay Layout
	ok := c.times(&lay)
	ok = ok && c.take('/')
	ok = ok && c.sections(&lay)
	ok = ok && c.take('/')
	ok = ok && c.routes(&lay)
	ok = ok && c.take('/')
	ok = ok && c.trains(&lay)
	return lay, ok
}

func (c *cursor) times(lay *Layout) bool {
	var times [3]int
	for i := 0; i < len(times); i++ {
		above, ok := c.takeFrom('1', '9')
		if !ok {
			return false
		}
		times[i] = above + 1
	}
	lay.T = times[0]
	lay.D = times[1]
	lay.Q = times[2]
	return true
}

func (c *cursor) sections(lay *Layout) bool {
	b := c.peek()
	for b == '.' || b == 'y' {
		lay.Switches = append(lay.Switches, b == 'y')
		c.at++
		b = c.peek()
	}
	return len(lay.Switches) > 0
}

func (c *cursor) routes(lay *Layout) bool {
	more := true
	for more {
		route, ok := c.route()
		if !ok {
			return false
		}
		lay.Routes = append(lay.Routes, route)
		more = c.take(',')
	}
	return true
}

func (c *cursor) route() (Route, bool) {
	var route Route
	foot, ok := c.takeLetter()
	if !ok || !c.take('>') {
		return route, false
	}
	route.Foot = foot
	path, ok := c.path()
	if !ok {
		return route, false
	}
	route.Path = path
	if !c.take('!') {
		return route, true
	}
	flank, ok := c.flank()
	route.Flank = flank
	return route, ok
}

func (c *cursor) path() ([]Item, bool) {
	var path []Item
	section, ok := c.takeLetter()
	for ok {
		sign := c.takeSign()
		path = append(path, Item{Section: section, Sign: sign})
		section, ok = c.takeLetter()
	}
	return path, len(path) > 0
}

func (c *cursor) flank() ([]Item, bool) {
	var flank []Item
	section, ok := c.takeLetter()
	for ok {
		sign := c.takeSign()
		if sign == NoSign {
			return nil, false
		}
		flank = append(flank, Item{Section: section, Sign: sign})
		section, ok = c.takeLetter()
	}
	return flank, len(flank) > 0
}

func (c *cursor) trains(lay *Layout) bool {
	more := true
	for more {
		train, ok := c.train()
		if !ok {
			return false
		}
		lay.Trains = append(lay.Trains, train)
		more = c.take(',')
	}
	return true
}

func (c *cursor) train() (Train, bool) {
	var train Train
	start, ok := c.takeLetter()
	if !ok {
		return train, false
	}
	train.Start = start
	number, ok := c.takeCapital()
	for ok {
		train.Journey = append(train.Journey, number)
		number, ok = c.takeCapital()
	}
	return train, len(train.Journey) > 0
}
