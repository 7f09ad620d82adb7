// Package plan: a layout as the program keeps it, read from its text and checked.
package plan

// NoSign stands where no sign is behind a letter.
const NoSign byte = 0

// Item is a section that a path or a flank names, with the sign behind its letter.
type Item struct {
	Section int
	Sign    byte // '+', '-' or NoSign
}

// Route is a way from its foot along its path.
type Route struct {
	Foot  int
	Path  []Item
	Flank []Item
}

// Train is where a train stands at first, and the routes that it takes.
type Train struct {
	Start   int
	Journey []int
}

// Layout is a railway. Sections, routes and trains are numbered from 0 on.
type Layout struct {
	T        int
	D        int
	Q        int
	Switches []bool // for each section, whether it has a switch
	Routes   []Route
	Trains   []Train
}

// Last answers the section in which a route ends.
func (route Route) Last() int {
	if len(route.Path) == 0 {
		return -1
	}
	return route.Path[len(route.Path)-1].Section
}

// Switches answers the switches of a route, each as the route wants it.
func (route Route) Switches() []Item {
	var switches []Item
	for _, item := range route.Path {
		if item.Sign != NoSign {
			switches = append(switches, item)
		}
	}
	for _, item := range route.Flank {
		switches = append(switches, item)
	}
	return switches
}

// HasSection tells whether there is a section of that number.
func (lay Layout) HasSection(section int) bool {
	return section >= 0 && section < len(lay.Switches)
}

// HasSwitch tells whether there is a section of that number with a switch in it.
func (lay Layout) HasSwitch(section int) bool {
	return lay.HasSection(section) && lay.Switches[section]
}

// HasRoute tells whether there is a route of that number.
func (lay Layout) HasRoute(number int) bool {
	return number >= 0 && number < len(lay.Routes)
}

// HasTrain tells whether there is a train of that number.
func (lay Layout) HasTrain(number int) bool {
	return number >= 0 && number < len(lay.Trains)
}

// RouteAt answers the route of a number, or false if the layout has none:
// a journey that has only been read may name any.
func (lay Layout) RouteAt(number int) (Route, bool) {
	if !lay.HasRoute(number) {
		return Route{}, false
	}
	return lay.Routes[number], true
}
