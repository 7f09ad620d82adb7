package plan

import "rails/api"

// Check tells whether a layout that has been read keeps to the limits and has
// routes and trains that are right. The number is that of the first wrong one.
func Check(lay Layout) (api.Errno, int) {
	if !sizesFit(lay) {
		return api.ErrSize, 0
	}
	for i := 0; i < len(lay.Routes); i++ {
		if !routeRight(lay, lay.Routes[i]) {
			return api.ErrRoute, i
		}
	}
	for i := 0; i < len(lay.Trains); i++ {
		if !trainRight(lay, lay.Trains[i], lay.Trains[:i]) {
			return api.ErrTrain, i
		}
	}
	return api.OK, 0
}

func sizesFit(lay Layout) bool {
	if len(lay.Switches) > api.MaxSections || len(lay.Routes) > api.MaxRoutes || len(lay.Trains) > api.MaxTrains {
		return false
	}
	for _, route := range lay.Routes {
		if len(route.Path) > api.MaxPath || len(route.Flank) > api.MaxFlank {
			return false
		}
	}
	for _, train := range lay.Trains {
		if len(train.Journey) > api.MaxJourney {
			return false
		}
	}
	return true
}

func routeRight(lay Layout, route Route) bool {
	if !lay.HasSection(route.Foot) {
		return false
	}
	for i := 0; i < len(route.Path); i++ {
		if !pathItemRight(lay, route.Path[i]) {
			return false
		}
		section := route.Path[i].Section
		if section == route.Foot || Names(route.Path[:i], section) {
			return false
		}
	}
	for i := 0; i < len(route.Flank); i++ {
		section := route.Flank[i].Section
		if Names(route.Path, section) || Names(route.Flank[:i], section) {
			return false
		}
		if !lay.HasSwitch(section) || isLast(lay, section) {
			return false
		}
	}
	return true
}

func pathItemRight(lay Layout, item Item) bool {
	signed := item.Sign != NoSign
	return lay.HasSection(item.Section) && lay.HasSwitch(item.Section) == signed
}

// Names tells whether a path or a flank, or a part of one, names a section.
func Names(items []Item, section int) bool {
	for _, item := range items {
		if item.Section == section {
			return true
		}
	}
	return false
}

func isLast(lay Layout, section int) bool {
	for _, route := range lay.Routes {
		if route.Last() == section {
			return true
		}
	}
	return false
}

func inFlank(lay Layout, section int) bool {
	for _, route := range lay.Routes {
		if Names(route.Flank, section) {
			return true
		}
	}
	return false
}

func trainRight(lay Layout, train Train, ahead []Train) bool {
	if !lay.HasSection(train.Start) || inFlank(lay, train.Start) {
		return false
	}
	for _, other := range ahead {
		if other.Start == train.Start {
			return false
		}
	}
	return journeyRight(lay, train)
}

func journeyRight(lay Layout, train Train) bool {
	from := train.Start
	for _, number := range train.Journey {
		route, ok := lay.RouteAt(number)
		if !ok || route.Foot != from {
			return false
		}
		from = route.Last()
	}
	return true
}
