package term

import (
	"strings"

	"cheval/api"
	"cheval/expr"
	"cheval/iso"
	"cheval/token"
	"cheval/value"
	"cheval/whole"
)

const (
	blanks  = " \t\n\r"
	letters = "abcdefghijklmnopqrstuvwxyzABCDEFGHIJKLMNOPQRSTUVWXYZ"
	digits  = "0123456789"
	within  = letters + digits + "_" // what a word goes on with
)

// parser: a text, how far it is read, and the first error.
type parser struct {
	s     string
	place int
	wrong int // where the error is
	e     api.Errno
}

// fail notes an error, if it is the first one.
func (p *parser) fail(place int, e api.Errno) {
	if p.e == api.OK {
		p.wrong, p.e = place, e
	}
	// Whatever would be read on finds nothing any more, so that nobody need ask whether there was an error.
	p.place = len(p.s)
}

// next is where the next thing begins, or the end.
func (p *parser) next() int {
	return behind(p.s, p.place, blanks)
}

// begins is the word, or the one byte, that stands next; "", if nothing does.
func (p *parser) begins() string {
	at := p.next()
	if word := p.s[at:behindWord(p.s, at)]; word != "" || at == len(p.s) {
		return word
	}
	return p.s[at : at+1]
}

// must reads a sign, or a word, that must stand there.
func (p *parser) must(sign string) {
	at := p.next()
	if p.begins() != sign {
		p.fail(at, api.ErrForm)
		return
	}
	p.place = at + len(sign)
}

// defs reads definitions, one at least.
func (p *parser) defs() []Def {
	l := []Def{p.def()}
	for p.begins() != "" {
		l = append(l, p.def())
	}
	return l
}

// def reads a definition.
func (p *parser) def() Def {
	d := Def{Name: p.name(IsWord)}
	p.must("=")
	d.Term = p.term()
	p.must(";")
	return d
}

// term reads a term.
func (p *parser) term() Term {
	begin := p.begins()
	if read := reader(begin); read != nil {
		p.must(begin)
		return read(p)
	}
	return Term{Kind: Ref, Name: p.name(IsWord)}
}

// reader is what reads the rest of a term that begins with a keyword, or a bracket; nil, if none does.
func reader(keyword string) func(p *parser) Term {
	switch keyword {
	case "just":
		return (*parser).just
	case "int":
		return (*parser).integers
	case "pick":
		return (*parser).pick
	case "[":
		return (*parser).tuple
	case "{":
		return (*parser).record
	case "list":
		return (*parser).list
	case "text":
		return (*parser).text
	case "let":
		return (*parser).bind
	case "where":
		return (*parser).where
	case "map":
		return (*parser).mapped
	}
	return nil
}

// just reads a Just.
func (p *parser) just() Term {
	return Term{Kind: Just, Lit: p.lit()}
}

// integers reads a Range.
func (p *parser) integers() Term {
	t := Term{Kind: Range, Exprs: p.exprs("(", ",")}
	p.must(")")
	return t
}

// pick reads a Pick.
func (p *parser) pick() Term {
	t := Term{Kind: Pick}
	p.must("(")
	p.each(func() {
		t.Weights = append(t.Weights, p.weight())
		t.Parts = append(t.Parts, p.term())
	})
	p.must(")")
	return t
}

// tuple reads a Tuple.
func (p *parser) tuple() Term {
	t := Term{Kind: Tuple}
	p.upTo("]", func() {
		t.Parts = append(t.Parts, p.term())
	})
	return t
}

// record reads a Record.
func (p *parser) record() Term {
	t := Term{Kind: Record}
	p.upTo("}", func() {
		t.Keys = append(t.Keys, p.string())
		p.must(":")
		t.Parts = append(t.Parts, p.term())
	})
	return t
}

// list reads a List.
func (p *parser) list() Term {
	p.must("(")
	t := Term{Kind: List, Parts: []Term{p.term()}}
	t.Exprs = p.exprs(",", ",")
	p.must(")")
	return t
}

// text reads a Text.
func (p *parser) text() Term {
	p.must("(")
	t := Term{Kind: Text, Lit: value.Text(p.string())}
	t.Exprs = p.exprs(",", ",")
	p.must(")")
	return t
}

// bind reads a Bind.
func (p *parser) bind() Term {
	t := Term{Kind: Bind, Name: p.name(isVar)}
	p.must("=")
	first := p.term()
	t.Exprs = p.exprs("from")
	p.must("in")
	t.Parts = []Term{first, p.term()}
	return t
}

// where reads a Where.
func (p *parser) where() Term {
	p.must("(")
	t := Term{Kind: Where, Parts: []Term{p.term()}}
	t.Exprs = p.exprs(",")
	p.must(")")
	return t
}

// mapped reads a Map.
func (p *parser) mapped() Term {
	p.must("(")
	t := Term{Kind: Map, Isos: p.isos()}
	p.must(",")
	t.Parts = []Term{p.term()}
	p.must(")")
	return t
}

// each reads what read does, once or again and again, with a comma between each two.
func (p *parser) each(read func()) {
	read()
	for p.begins() == "," {
		p.must(",")
		read()
	}
}

// upTo reads likewise, perhaps nothing, up to a sign.
func (p *parser) upTo(sign string, read func()) {
	if p.begins() != sign {
		p.each(read)
	}
	p.must(sign)
}

// exprs reads an expression behind each of some signs or words.
func (p *parser) exprs(signs ...string) []expr.Expr {
	var l []expr.Expr
	for _, sign := range signs {
		p.must(sign)
		x, place, e := expr.Prefix(p.s, p.place)
		if e != api.OK {
			p.fail(place, e)
			return nil
		}
		l, p.place = append(l, x), place
	}
	return l
}

// isos reads isos.
func (p *parser) isos() []iso.Iso {
	l, place, e := iso.Prefix(p.s, p.place)
	if e != api.OK {
		p.fail(place, e)
		return nil
	}
	p.place = place
	return l
}

// name reads a word that may stand there.
func (p *parser) name(may func(s string) bool) string {
	at := p.next()
	word := p.begins()
	if !may(word) {
		p.fail(at, api.ErrForm)
		return ""
	}
	p.place = at + len(word)
	return word
}

// lit reads what stands behind just.
func (p *parser) lit() value.Value {
	switch begin := p.begins(); begin {
	case "null":
		p.must(begin)
		return value.Value{}
	case "true", "false":
		p.must(begin)
		return value.Truth(begin == "true")
	case `"`:
		return value.Text(p.string())
	}
	return value.Number(p.number())
}

// weight reads the weight ahead of a Pick's part; it is 1, if none stands there.
func (p *parser) weight() int {
	// A digit must be there first: number would read a sign, too, and no weight has one.
	if at := p.next(); behind(p.s, at, digits) == at {
		return 1
	}
	n := p.number()
	p.must(":")
	return int(n)
}

// number reads a number's text: the integer.
func (p *parser) number() int64 {
	at := p.next()
	first := at
	if p.begins() == "-" {
		first++
	}
	end := behind(p.s, first, digits)
	switch {
	case end == first:
		// A sign may stand where a number must: what can't stand then is what comes behind it.
		p.fail(first, api.ErrForm)
		return 0
	case p.s[first] == '0' && end > first+1:
		p.fail(first+1, api.ErrForm)
		return 0
	}
	n, e := whole.Parse(p.s[at:end])
	if e != api.OK {
		p.fail(at, e)
		return 0
	}
	p.place = end
	return n
}

// string reads a string: its text.
func (p *parser) string() string {
	at := p.next()
	if p.begins() != `"` {
		p.fail(at, api.ErrForm)
		return ""
	}
	t, place, e := token.New(p.s[at:]).Next()
	if e != api.OK {
		p.fail(at+place, e)
		return ""
	}
	p.place = at + t.End
	return t.Text
}

// isVar: may a text be a var?
func isVar(s string) bool {
	return expr.IsName(s) && !isKeyword(s)
}

// behindWord is the place behind a word; the place itself, if none stands there.
func behindWord(s string, at int) int {
	if behind(s, at, letters) == at {
		return at
	}
	return behind(s, at, within)
}

// behind is the place of the first byte, from one on, that is none of some.
func behind(s string, at int, some string) int {
	return len(s) - len(strings.TrimLeft(s[at:], some))
}
