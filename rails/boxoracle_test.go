package rails_test

import (
	"fmt"
	"maps"
	"regexp"
	"strings"
)

// What the document says of a box, written a second time, in texts and maps by
// the names of things.

type toldBox struct {
	lay    toldLayout
	form   *regexp.Regexp
	phase  map[string]string // by a route's capital
	setFor map[string]string // by a route's capital: a train's digit
	beenG  map[string]bool   // by a route's capital
	count  map[string]int    // by a route's capital
	marked map[string]bool   // by a route's capital and a section's letter
	lock   map[string]string // by a section's letter: a route's capital
	wanted map[string]string // by a section's letter
	late   map[string]int    // by a section's letter
	failed map[string]bool   // by a section's letter
	safe   map[string]bool   // by a state: what has been found out of it
	at     string
	queue  string
}

func capital(n int) string { return string(rune('A' + n)) }
func letter(n int) string  { return string(rune('a' + n)) }
func digit(n int) string   { return string(rune('1' + n)) }

func newToldBox(layout string) *toldBox {
	b := &toldBox{
		lay: tell(layout), phase: map[string]string{}, setFor: map[string]string{}, beenG: map[string]bool{},
		count: map[string]int{}, marked: map[string]bool{}, lock: map[string]string{}, wanted: map[string]string{},
		late: map[string]int{}, failed: map[string]bool{}, safe: map[string]bool{},
	}
	commands := "r[1-" + digit(len(b.lay.trains)-1) + "]|c[A-" + capital(len(b.lay.routes)-1) + "]"
	if b.switches() != "" {
		commands += "|m[" + b.switches() + "]"
	}
	b.form = regexp.MustCompile(fmt.Sprintf(`\A[01]{%d}[+?-]{%d}(%s)*\z`, len(b.lay.sections), len(b.switches()), commands))
	for n := range b.lay.routes {
		b.phase[capital(n)] = "."
	}
	for _, s := range b.switches() {
		b.wanted[string(s)] = "+"
	}
	b.at = strings.Repeat("0", len(b.lay.trains))
	return b
}

func (b *toldBox) clone() *toldBox {
	c := *b
	c.phase, c.setFor, c.marked = maps.Clone(b.phase), maps.Clone(b.setFor), maps.Clone(b.marked)
	c.beenG, c.count, c.failed = maps.Clone(b.beenG), maps.Clone(b.count), maps.Clone(b.failed)
	c.lock, c.wanted, c.late = maps.Clone(b.lock), maps.Clone(b.wanted), maps.Clone(b.late)
	return &c
}

// key is another for each two boxes that differ.
func (b *toldBox) key() string {
	return fmt.Sprint(b.phase, b.setFor, b.beenG, b.count, b.marked, b.lock, b.wanted, b.late, b.failed, b.at, b.queue)
}

// switches answers the letters of the sections with a switch.
func (b *toldBox) switches() string {
	letters := ""
	for n, kind := range b.lay.sections {
		if kind == 'y' {
			letters += letter(n)
		}
	}
	return letters
}

func (b *toldBox) route(name string) toldRoute { return b.lay.routes[name[0]-'A'] }

// wants answers the sign as which a route wants each of its switches.
func (b *toldBox) wants(name string) map[string]string {
	signs := map[string]string{}
	for _, p := range b.route(name).path {
		if p.sign != "" {
			signs[p.section] = p.sign
		}
	}
	for _, f := range b.route(name).flank {
		signs[f.section] = f.sign
	}
	return signs
}

func (b *toldBox) isHeld(section string) bool {
	held := b.lock[section] != ""
	for n, r := range b.lay.routes {
		for _, f := range r.flank {
			held = held || f.section == section && b.phase[capital(n)] != "."
		}
	}
	return held
}

// sight is what a frame says of the railway.
type sight struct {
	occupied map[string]bool
	reported map[string]string
}

func (b *toldBox) see(frame string) sight {
	s := sight{map[string]bool{}, map[string]string{}}
	for n := range b.lay.sections {
		s.occupied[letter(n)] = frame[n] == '1'
	}
	for n, section := range b.switches() {
		s.reported[string(section)] = frame[len(b.lay.sections)+n:][:1]
	}
	return s
}

// cycle is what P7 to P12 ask of Cycle.
func (b *toldBox) cycle(frame string) string {
	if len(frame) > 64 || !b.form.MatchString(frame) {
		return "!"
	}
	s := b.see(frame)
	b.countLate(s)
	for n := range b.lay.routes {
		b.goOn(capital(n), s)
	}
	replies := ""
	for commands := frame[len(b.lay.sections)+len(b.switches()):]; commands != ""; commands = commands[2:] {
		replies += b.obey(commands[:1], commands[1:2], s)
	}
	served := ""
	for _, train := range b.queue {
		if b.grant(string(train), s) {
			served += string(train)
			b.queue = strings.ReplaceAll(b.queue, string(train), "")
		}
	}
	return "=" + b.signals() + "/" + b.moves(s) + "/" + replies + "/" + served
}

// time answers T, D or Q, by its place.
func (b *toldBox) time(place int) int { return int(b.lay.times[place] - '0') }

// countLate is P8.
func (b *toldBox) countLate(s sight) {
	for section, sign := range b.wanted {
		if b.isHeld(section) && !b.failed[section] && s.reported[section] != sign {
			b.late[section]++
		} else {
			delete(b.late, section)
		}
		if b.late[section] == b.time(0) {
			b.failed[section] = true
			delete(b.late, section)
		}
	}
}

func (b *toldBox) anyFailed(name string) bool {
	for section := range b.wants(name) {
		if b.failed[section] {
			return true
		}
	}
	return false
}

func (b *toldBox) anyOccupied(name string, s sight) bool {
	for _, p := range b.route(name).path {
		if s.occupied[p.section] {
			return true
		}
	}
	return false
}

func (b *toldBox) allReported(name string, s sight) bool {
	for section, sign := range b.wants(name) {
		if s.reported[section] != sign {
			return false
		}
	}
	return true
}

func (b *toldBox) goOn(name string, s sight) {
	first := b.route(name).path[0].section
	switch b.phase[name] {
	case "w":
		if b.anyFailed(name) {
			b.phase[name] = "f"
		} else if b.allReported(name, s) && !b.anyOccupied(name, s) {
			b.phase[name], b.beenG[name] = "g", true
		}
	case "g":
		if s.occupied[first] {
			b.phase[name] = "t"
			b.unmark(name)
			b.marked[name+first] = true
		} else if b.anyFailed(name) {
			b.phase[name] = "f"
		} else if !b.allReported(name, s) || b.anyOccupied(name, s) {
			b.phase[name] = "w"
		}
	case "t":
		for _, p := range b.route(name).path {
			if s.occupied[p.section] {
				b.marked[name+p.section] = true
			}
		}
		b.release(name, s)
	case "d":
		if s.occupied[first] {
			b.phase[name] = "t"
			b.unmark(name)
			b.marked[name+first] = true
		} else if b.count[name] > 0 {
			b.count[name]--
		} else if !b.anyOccupied(name, s) {
			for _, p := range b.route(name).path {
				delete(b.lock, p.section)
			}
			b.phase[name] = "."
			b.at = b.changed(b.setFor[name], -1)
		}
	}
}

func (b *toldBox) unmark(name string) {
	for _, p := range b.route(name).path {
		delete(b.marked, name+p.section)
	}
}

// changed answers the state in which a train has more routes granted by a number.
func (b *toldBox) changed(train string, by int) string {
	n := train[0] - '1'
	return b.at[:n] + fmt.Sprint(int(b.at[n]-'0')+by) + b.at[n+1:]
}

func (b *toldBox) release(name string, s sight) {
	before := b.route(name).foot
	path := b.route(name).path
	for i, p := range path {
		if b.lock[p.section] != name {
			before = p.section
			continue
		}
		isLast := i == len(path)-1
		gone := isLast && !s.occupied[before] || !isLast && !s.occupied[p.section] && b.marked[name+path[i+1].section]
		if b.marked[name+p.section] && gone {
			delete(b.lock, p.section)
			if isLast {
				b.phase[name] = "."
			}
		}
		return
	}
}

// next answers the capital of the next route of a train, if it has one.
func (b *toldBox) next(train string) string {
	n := train[0] - '1'
	journey := b.lay.trains[n].journey[b.at[n]-'0':]
	if journey == "" {
		return ""
	}
	return journey[:1]
}

func (b *toldBox) obey(kind, name string, s sight) string {
	switch kind {
	case "c":
		return b.cancel(name, s)
	case "m":
		if !b.failed[name] {
			return "n"
		}
		delete(b.failed, name)
		return "m"
	}
	switch {
	case b.next(name) == "":
		return "d"
	case strings.Contains(b.queue, name):
		return "t"
	case len(b.queue) >= b.time(2):
		return "f"
	}
	b.queue += name
	return "q"
}

func (b *toldBox) cancel(name string, s sight) string {
	if !strings.Contains("wgf", b.phase[name]) {
		return "n"
	}
	b.phase[name] = "d"
	delete(b.count, name)
	if b.beenG[name] && s.occupied[b.route(name).foot] {
		b.count[name] = b.time(1)
	}
	return "k"
}

func (b *toldBox) isSafe(at string) bool {
	safe, known := b.safe[at]
	if !known {
		safe = len(b.lay.orders(at)) > 0
		b.safe[at] = safe
	}
	return safe
}

func (b *toldBox) grant(train string, s sight) bool {
	name := b.next(train)
	for other, owner := range b.setFor {
		if owner == train && b.phase[other] != "." {
			return false
		}
	}
	for _, p := range b.route(name).path {
		if b.lock[p.section] != "" || s.occupied[p.section] {
			return false
		}
	}
	if b.anyFailed(name) {
		return false
	}
	for section, sign := range b.wants(name) {
		mayMove := !b.isHeld(section) && b.lock[section] == "" && !s.occupied[section]
		if b.wanted[section] != sign && !mayMove {
			return false
		}
	}
	after := b.changed(train, 1)
	if !b.isSafe(after) {
		return false
	}
	b.at = after
	b.phase[name], b.setFor[name] = "w", train
	delete(b.beenG, name)
	b.unmark(name)
	for _, p := range b.route(name).path {
		b.lock[p.section] = name
	}
	for section, sign := range b.wants(name) {
		b.wanted[section] = sign
	}
	return true
}

func (b *toldBox) signals() string {
	signals := ""
	for n := range b.lay.routes {
		if b.phase[capital(n)] == "g" {
			signals += "g"
		} else {
			signals += "r"
		}
	}
	return signals
}

func (b *toldBox) moves(s sight) string {
	moves := ""
	for _, c := range b.switches() {
		section, awaited := string(c), false
		for n := range b.lay.routes {
			_, among := b.wants(capital(n))[section]
			awaited = awaited || among && b.phase[capital(n)] == "w"
		}
		if awaited && !s.occupied[section] && !b.failed[section] && s.reported[section] != b.wanted[section] {
			moves += b.wanted[section]
		} else {
			moves += "."
		}
	}
	return moves
}

// tells is what P13 asks of the questions.
func (b *toldBox) tells() told {
	var is told
	for n := range b.lay.sections {
		is.locks += (b.lock[letter(n)] + ".")[:1]
	}
	for n := range b.lay.routes {
		is.phases += b.phase[capital(n)]
	}
	for _, section := range b.switches() {
		if b.failed[string(section)] {
			is.switches += "x"
		} else {
			is.switches += b.wanted[string(section)]
		}
	}
	is.at, is.queue = b.at, b.queue
	return is
}
