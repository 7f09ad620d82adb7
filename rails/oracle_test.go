package rails_test

import (
	"regexp"
	"slices"
	"strings"

	"rails/api"
)

// What the document says of layouts and states, written a second time and in
// another way (by splitting, matching and trying out), to hold the program to.

var layoutForm = func() *regexp.Regexp {
	route := `[a-p]>([a-p][+-]?)+(!([a-p][+-])+)?`
	train := `[a-p][A-L]+`
	return regexp.MustCompile(`\A[1-9]{3}/[.y]+/` + route + `(,` + route + `)*/` + train + `(,` + train + `)*\z`)
}()

// endings has an end for every text with which a layout can begin.
var endings = []string{
	"111/./a>b/aA", "11/./a>b/aA", "1/./a>b/aA", "/./a>b/aA", "./a>b/aA", "/a>b/aA",
	"a>b/aA", ">b/aA", "b/aA", "/aA", "b+/aA", "+/aA", "aA", "A", "",
}

func canGoOn(begin string) bool {
	return slices.ContainsFunc(endings, func(end string) bool { return layoutForm.MatchString(begin + end) })
}

type toldItem struct{ section, sign string }

type toldRoute struct {
	foot        string
	path, flank []toldItem
}

func (r toldRoute) last() string { return r.path[len(r.path)-1].section }

type toldTrain struct{ start, journey string }

type toldLayout struct {
	times    string
	sections string
	routes   []toldRoute
	trains   []toldTrain
}

func tellItems(text string) []toldItem {
	var items []toldItem
	for _, m := range regexp.MustCompile(`([a-p])([+-]?)`).FindAllStringSubmatch(text, -1) {
		items = append(items, toldItem{m[1], m[2]})
	}
	return items
}

// tell takes a text of the form apart.
func tell(text string) toldLayout {
	parts := strings.Split(text, "/")
	lay := toldLayout{times: parts[0], sections: parts[1]}
	for _, r := range strings.Split(parts[2], ",") {
		foot, rest, _ := strings.Cut(r, ">")
		path, flank, _ := strings.Cut(rest, "!")
		lay.routes = append(lay.routes, toldRoute{foot, tellItems(path), tellItems(flank)})
	}
	for _, t := range strings.Split(parts[3], ",") {
		lay.trains = append(lay.trains, toldTrain{t[:1], t[1:]})
	}
	return lay
}

// kind is ".", "y" or, for a section that is not there, "".
func (lay toldLayout) kind(section string) string {
	n := int(section[0] - 'a')
	if n < len(lay.sections) {
		return lay.sections[n : n+1]
	}
	return ""
}

func (lay toldLayout) tooLarge() bool {
	large := len(lay.sections) > 16 || len(lay.routes) > 12 || len(lay.trains) > 5
	for _, r := range lay.routes {
		large = large || len(r.path) > 6 || len(r.flank) > 4
	}
	for _, t := range lay.trains {
		large = large || len(t.journey) > 8
	}
	return large
}

func (lay toldLayout) routeIsWrong(r toldRoute) bool {
	wrong := lay.kind(r.foot) == ""
	inPath := map[string]bool{}
	for _, p := range r.path {
		wrong = wrong || inPath[p.section] || p.section == r.foot
		inPath[p.section] = true
		switch lay.kind(p.section) {
		case "":
			wrong = true
		case "y":
			wrong = wrong || p.sign == ""
		case ".":
			wrong = wrong || p.sign != ""
		}
	}
	inFlank := map[string]bool{}
	for _, f := range r.flank {
		wrong = wrong || lay.kind(f.section) != "y" || inPath[f.section] || inFlank[f.section]
		inFlank[f.section] = true
		for _, other := range lay.routes {
			wrong = wrong || other.last() == f.section
		}
	}
	return wrong
}

func (lay toldLayout) trainIsWrong(n int) bool {
	t := lay.trains[n]
	wrong := lay.kind(t.start) == ""
	for _, other := range lay.trains[:n] {
		wrong = wrong || other.start == t.start
	}
	for _, r := range lay.routes {
		for _, f := range r.flank {
			wrong = wrong || f.section == t.start
		}
	}
	for i := range t.journey {
		number := int(t.journey[i] - 'A')
		if number >= len(lay.routes) {
			return true
		}
		if i == 0 {
			wrong = wrong || lay.routes[number].foot != t.start
			continue
		}
		before := int(t.journey[i-1] - 'A')
		wrong = wrong || lay.routes[number].foot != lay.routes[before].last()
	}
	return wrong
}

func (lay toldLayout) isDone(n int, at string) bool {
	return int(at[n]-'0') == len(lay.trains[n].journey)
}

func (lay toldLayout) holds(n int, at string) string {
	granted := int(at[n] - '0')
	if granted == 0 {
		return lay.trains[n].start
	}
	return lay.routes[lay.trains[n].journey[granted-1]-'A'].last()
}

// mayRun tells it of train n, if the trains in gone are taken as done.
func (lay toldLayout) mayRun(n int, at string, gone []int) bool {
	for other := range lay.trains {
		if other == n || lay.isDone(other, at) || slices.Contains(gone, other) {
			continue
		}
		for _, capital := range lay.trains[n].journey[at[n]-'0':] {
			for _, p := range lay.routes[capital-'A'].path {
				if p.section == lay.holds(other, at) {
					return false
				}
			}
		}
	}
	return true
}

// orders answers all orders in which the trains can come through.
func (lay toldLayout) orders(at string) []string {
	var left []int
	for n := range lay.trains {
		if !lay.isDone(n, at) {
			left = append(left, n)
		}
	}
	var all []string
	for _, order := range permutations(left) {
		good, digits := true, ""
		for i, n := range order {
			good = good && lay.mayRun(n, at, order[:i])
			digits += string(rune('1' + n))
		}
		if good {
			all = append(all, digits)
		}
	}
	return all
}

func permutations(of []int) [][]int {
	if len(of) == 0 {
		return [][]int{nil}
	}
	var all [][]int
	for i, first := range of {
		rest := slices.Concat(of[:i], of[i+1:])
		for _, p := range permutations(rest) {
			all = append(all, append([]int{first}, p...))
		}
	}
	return all
}

// states answers all states of the layout.
func (lay toldLayout) states() []string {
	all := []string{""}
	for _, t := range lay.trains {
		var longer []string
		for _, s := range all {
			for granted := 0; granted <= len(t.journey); granted++ {
				longer = append(longer, s+string(rune('0'+granted)))
			}
		}
		all = longer
	}
	return all
}

// toldCheck is what P3 asks of Check.
func toldCheck(text string) (api.Errno, int) {
	if len(text) > 256 {
		return api.ErrLong, 0
	}
	for i := range len(text) {
		if !canGoOn(text[:i+1]) {
			return api.ErrForm, i
		}
	}
	if !layoutForm.MatchString(text) {
		return api.ErrForm, len(text)
	}
	return tell(text).check()
}

// check is what P3 asks of Check, for a text that has the form.
func (lay toldLayout) check() (api.Errno, int) {
	if lay.tooLarge() {
		return api.ErrSize, 0
	}
	for i, r := range lay.routes {
		if lay.routeIsWrong(r) {
			return api.ErrRoute, i
		}
	}
	for i := range lay.trains {
		if lay.trainIsWrong(i) {
			return api.ErrTrain, i
		}
	}
	if len(lay.orders(strings.Repeat("0", len(lay.trains)))) == 0 {
		return api.ErrUnsafe, 0
	}
	return api.OK, 0
}
