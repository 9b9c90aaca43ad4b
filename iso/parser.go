package iso

import (
	"strings"

	"cheval/api"
	"cheval/token"
	"cheval/whole"
)

const (
	blanks  = " \t\n\r"
	letters = "abcdefghijklmnopqrstuvwxyzABCDEFGHIJKLMNOPQRSTUVWXYZ"
	digits  = "0123456789"
	within  = letters + digits + "_" // what a word goes on with
)

// parser: a text, and how far it is read.
type parser struct {
	s     string
	place int
}

// isos reads isos, with a bar between each two, and tells the place behind them; or the error, and its place.
func (p *parser) isos() ([]Iso, int, api.Errno) {
	var l []Iso
	for {
		x, place, e := p.iso()
		if e != api.OK {
			return nil, place, e
		}
		l = append(l, x)
		bar := p.next()
		if !strings.HasPrefix(p.s[bar:], "|") {
			return l, p.place, api.OK
		}
		p.place = bar + 1
	}
}

// iso reads an iso; or tells the place of the error, and it.
func (p *parser) iso() (Iso, int, api.Errno) {
	at := p.next()
	behind := p.behindWord(at)
	if behind == at {
		return Iso{}, at, api.ErrForm
	}
	name := p.s[at:behind]
	p.place = behind
	switch uses := kindOf(name).uses; uses {
	case number, factor:
		return p.counted(name, uses)
	case key:
		return p.keyed(name)
	case nothing:
		return Iso{Name: name}, 0, api.OK
	}
	return Iso{}, at, api.ErrName
}

// counted reads the N behind a name.
func (p *parser) counted(name string, uses int) (Iso, int, api.Errno) {
	at := p.next()
	first := at
	if strings.HasPrefix(p.s[at:], "-") {
		first++
	}
	behind := p.behind(first, digits)
	switch {
	case behind == first:
		// A sign may stand where an integer must: what can't stand then is what comes behind it.
		return Iso{}, first, api.ErrForm
	case p.s[first] == '0' && behind > first+1:
		return Iso{}, first + 1, api.ErrForm
	}
	n, e := whole.Parse(p.s[at:behind])
	switch {
	case e != api.OK:
		return Iso{}, at, e
	case uses == factor && n == 0:
		return Iso{}, at, api.ErrRange
	}
	p.place = behind
	return Iso{Name: name, N: n}, 0, api.OK
}

// keyed reads the Key behind a name.
func (p *parser) keyed(name string) (Iso, int, api.Errno) {
	at := p.next()
	if !strings.HasPrefix(p.s[at:], `"`) {
		return Iso{}, at, api.ErrForm
	}
	t, place, e := token.New(p.s[at:]).Next()
	if e != api.OK {
		return Iso{}, at + place, e
	}
	p.place = at + t.End
	return Iso{Name: name, Key: t.Text}, 0, api.OK
}

// next is where the next thing begins, or the end.
func (p *parser) next() int {
	return p.behind(p.place, blanks)
}

// behindWord is the place behind a word; the place itself, if none stands there.
func (p *parser) behindWord(at int) int {
	if p.behind(at, letters) == at {
		return at
	}
	return p.behind(at, within)
}

// behind is the place of the first byte, from one on, that is none of some.
func (p *parser) behind(at int, some string) int {
	return len(p.s) - len(strings.TrimLeft(p.s[at:], some))
}
