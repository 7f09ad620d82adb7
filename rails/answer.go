package rails

import (
	"strconv"

	"rails/api"
	"rails/frames"
)

// answer is what a cycle says (P12).
func (b *Box) answer(seen frames.Frame, replies []byte, served []int) string {
	return "=" + b.signals() + "/" + b.moves(seen) + "/" + string(replies) + "/" + digits(served)
}

func (b *Box) signals() string {
	var text []byte
	for _, r := range b.routes {
		if r.phase == api.Green {
			text = append(text, 'g')
		} else {
			text = append(text, 'r')
		}
	}
	return string(text)
}

func (b *Box) moves(seen frames.Frame) string {
	var text []byte
	for section, s := range b.switches {
		if !b.lay.HasSwitch(section) {
			continue
		}
		mayMove := b.isAwaited(section) && !seen.Occupied(section) && !s.failed
		if mayMove && !seen.ReportedAs(section, s.wanted) {
			text = append(text, s.wanted)
		} else {
			text = append(text, '.')
		}
	}
	return string(text)
}

func digits(trains []int) string {
	text := ""
	for _, train := range trains {
		text += strconv.Itoa(train + 1)
	}
	return text
}
