package rails_test

import (
	"fmt"
	"strings"
)

const line = "324/..y..y../a>c+d,d>e,e>f+g,h>f-e,e>d,d>c-b/aABC,hDEF"

// goodLayouts are such as Check calls OK.
var goodLayouts = []string{
	line,
	"219/.yy.../a>b+d!c+,e>c+f/aA,eB",
	"111/../a>b/aA",
	"999/.y/a>b-/aA",
	"111/..../a>b,b>c,c>d/aA,bB,cC",
	"111/../a>b,b>a/aABABABAB",
	"123/.yyyyy./a>g!b+c-d+e-/aA",
	"111/....../a>b,b>c,c>d,d>e,e>f/aABCDE,bBCDE,cCDE,dDE,eE",
	"456/.y.y../a>b+c!d-,c>e,f>d+c,c>b-a/aAB,fCD",
}

// draw is a row of numbers that is the same in each run.
type draw struct{ seed uint64 }

func (d *draw) below(n int) int {
	d.seed = d.seed*6364136223846793005 + 1442695040888963407
	return int((d.seed >> 33) % uint64(n))
}

func (d *draw) oneOf(text string) string {
	n := d.below(len(text))
	return text[n : n+1]
}

const formBytes = "019/.y,>!+-abcdefgopqABCDLM \x00\n\xff"

// changed answers the text with one byte put in, left out or put in place of another.
func (d *draw) changed(text string) string {
	at := d.below(len(text) + 1)
	switch {
	case at == len(text) || d.below(4) == 0:
		return text[:at] + d.oneOf(formBytes) + text[at:]
	case d.below(3) == 0:
		return text[:at] + text[at+1:]
	}
	return text[:at] + d.oneOf(formBytes) + text[at+1:]
}

// layout answers a small layout that has the form, and often is right.
func (d *draw) layout() string {
	sections := ""
	for range 2 + d.below(5) {
		sections += d.oneOf("...y")
	}
	var routes, feet, lasts []string
	for range 1 + d.below(5) {
		foot, path, flank := d.route(sections)
		feet = append(feet, foot)
		lasts = append(lasts, strings.TrimRight(path, "+-"))
		routes = append(routes, foot+">"+path+flank)
	}
	var trains []string
	for range 1 + d.below(4) {
		trains = append(trains, d.train(feet, lasts))
	}
	return fmt.Sprintf("%d%d%d/%s/%s/%s", 1+d.below(9), 1+d.below(9), 1+d.below(9), sections, strings.Join(routes, ","), strings.Join(trains, ","))
}

func (d *draw) route(sections string) (foot, path, flank string) {
	letters := "abcdefghijklmnop"[:len(sections)]
	foot = d.oneOf(letters)
	for range 1 + d.below(2) {
		section := d.oneOf(letters)
		if section == foot || strings.Contains(path, section) {
			continue
		}
		path += section
		if sections[section[0]-'a'] == 'y' {
			path += d.oneOf("+-")
		}
	}
	if path == "" {
		path = d.oneOf(letters)
	}
	if d.below(6) == 0 {
		flank = "!" + d.oneOf(letters) + d.oneOf("+-")
	}
	return foot, path, flank
}

func (d *draw) train(feet, lasts []string) string {
	route := d.below(len(feet))
	train := feet[route] + string(rune('A'+route))
	for range d.below(4) {
		next := d.below(len(feet))
		if feet[next] == lasts[route][len(lasts[route])-1:] {
			train += string(rune('A' + next))
			route = next
		}
	}
	return train
}

// shuttle answers a layout of one track, with routes both ways from each
// section to the next, on which trains go to and fro.
func (d *draw) shuttle() string {
	length := 3 + d.below(4)
	var routes []string
	for n := range length - 1 {
		left, right := string(rune('a'+n)), string(rune('a'+n+1))
		routes = append(routes, left+">"+right, right+">"+left)
	}
	var trains []string
	for range 1 + d.below(3) {
		at := d.below(length)
		train := string(rune('a' + at))
		for range 1 + d.below(4) {
			if at == 0 || at < length-1 && d.below(2) == 0 {
				train += string(rune('A' + 2*at))
				at++
				continue
			}
			train += string(rune('A' + 2*at - 1))
			at--
		}
		trains = append(trains, train)
	}
	return fmt.Sprintf("111/%s/%s/%s", strings.Repeat(".", length), strings.Join(routes, ","), strings.Join(trains, ","))
}

// boxLayouts are such in which routes and switches get in each other's way.
var boxLayouts = []string{
	"219/.yy.../a>b+d!c-,e>c+f/aA,eB",
	"911/.yy../a>b+d!c-,e>c+d/aA,eB",
	"933/.y.y../a>b+c!d+,c>b-a,e>d+f!b-,f>d-e/aAB,eCD",
	"922/.y..../a>b+cd,d>b-e,f>cb+e/aA,dB,fC",
	"955/..y..y../a>c+d,d>e,e>f+g,h>f-e,e>d,d>c-b/aABC,hDEF",
	"935/.yyyy...../f>b+c-g,g>c+b-f,h>d+e-i!b+,i>e+h!c-d+,a>j!b-c-d-e-/fABAB,hCDC,aE",
	"999/......./a>b,b>c,c>d,d>e,e>f,f>g/aABC,bBCD,cCDE,dDEF,eEF",
	"111/......../a>bcdefg,g>h,h>a/aABCA",
}
