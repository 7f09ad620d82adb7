package rails

import (
	"rails/frames"
	"rails/plan"
)

// switchState is a switch at work.
type switchState struct {
	wanted byte // the sign as which it is wanted
	late   int  // by how many cycles
	failed bool
}

// count counts one cycle more or begins anew; at the limit the switch fails.
func (s *switchState) count(isLate bool, limit int) {
	if !isLate {
		s.late = 0
		return
	}
	s.late++
	if s.late >= limit {
		s.failed = true
		s.late = 0
	}
}

// countLate finds the switches that are late, and those that fail by it (P8).
func (b *Box) countLate(seen frames.Frame) {
	for section, s := range b.switches {
		if !b.lay.HasSwitch(section) {
			continue
		}
		isLate := !s.failed && b.isHeld(section) && !seen.ReportedAs(section, s.wanted)
		b.switches[section].count(isLate, b.lay.T)
	}
}

// mend takes a switch as sound again, if it has failed, and answers the byte
// for it.
func (b *Box) mend(section int) byte {
	if section < 0 || section >= len(b.switches) || !b.switches[section].failed {
		return 'n'
	}
	b.switches[section].failed = false
	return 'm'
}

func (b *Box) hasFailed(section int) bool {
	return section >= 0 && section < len(b.switches) && b.switches[section].failed
}

func (b *Box) anyFailed(switches []plan.Item) bool {
	for _, item := range switches {
		if b.hasFailed(item.Section) {
			return true
		}
	}
	return false
}

func (b *Box) isWantedAs(section int, sign byte) bool {
	return section >= 0 && section < len(b.switches) && b.switches[section].wanted == sign
}

func (b *Box) want(section int, sign byte) {
	if section >= 0 && section < len(b.switches) {
		b.switches[section].wanted = sign
	}
}
