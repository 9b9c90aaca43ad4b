package expr

import (
	"slices"
	"strings"

	"cheval/api"
	"cheval/token"
	"cheval/value"
	"cheval/whole"
)

const blanks = " \t\n\r"

// parser: a text, how far it is read, and the first error.
type parser struct {
	s     string
	place int
	wrong int // where the error is
	e     api.Errno
}

// part: a tree, and how deep it is. What is too deep has none: a text may be read on for longer than there is room for it.
type part struct {
	tree Expr
	deep int
}

// join is the tree of an Op, a name, and Args; nil, if one of those is.
func join(op, name string, args ...*part) *part {
	if slices.Contains(args, nil) {
		return nil
	}
	deep := 1 + deepest(args)
	if deep > api.MaxNest {
		return &part{deep: deep}
	}
	e := Expr{Op: op, Name: name, Args: make([]Expr, len(args))}
	for at, arg := range args {
		e.Args[at] = arg.tree
	}
	return &part{tree: e, deep: deep}
}

// deepest is how deep the deepest of some is.
func deepest(args []*part) int {
	deep := 0
	for _, arg := range args {
		deep = max(deep, arg.deep)
	}
	return deep
}

// leaf is a tree without Args.
func leaf(e Expr) *part {
	return &part{tree: e, deep: 1}
}

// lit is that of a value.
func lit(v value.Value) *part {
	return leaf(Expr{Op: "lit", Lit: v})
}

// answer is what a call answers: a tree and a place; or the error, that the tree is too deep with a place of its own.
func (p *parser) answer(made *part, place, deep int) (Expr, int, api.Errno) {
	if made == nil {
		return Expr{}, p.wrong, p.e
	}
	if made.deep > api.MaxNest {
		return Expr{}, deep, api.ErrDeep
	}
	return made.tree, place, api.OK
}

// fail notes an error: nothing is made.
func (p *parser) fail(place int, e api.Errno) *part {
	p.wrong, p.e = place, e
	return nil
}

// next is where the next sign, word, int, string or name begins, or the end.
func (p *parser) next() int {
	return len(p.s) - len(strings.TrimLeft(p.s[p.place:], blanks))
}

// stands: is that sign, or that word, the next one?
func (p *parser) stands(sign string) bool {
	at := p.next()
	if behind := behindWord(p.s, at); behind > at {
		return p.s[at:behind] == sign
	}
	return strings.HasPrefix(p.s[at:], sign)
}

// sign reads the first of some signs or words that stands there; it is "", if none does.
func (p *parser) sign(signs ...string) string {
	which := slices.IndexFunc(signs, p.stands)
	if which < 0 {
		return ""
	}
	p.place = p.next() + len(signs[which])
	return signs[which]
}

// must reads a sign that must stand there.
func (p *parser) must(sign string) bool {
	if p.sign(sign) == "" {
		p.fail(p.next(), api.ErrForm)
		return false
	}
	return true
}

// expr reads an expression.
func (p *parser) expr() *part {
	return p.chain((*parser).both, "or")
}

// both reads what stands between each two or.
func (p *parser) both() *part {
	return p.chain((*parser).test, "and")
}

// test reads what stands between each two and.
func (p *parser) test() *part {
	return p.led((*parser).rel, "not", "not")
}

// rel reads what stands behind not.
func (p *parser) rel() *part {
	// A longer sign is looked for ahead of what it begins with.
	return p.pair((*parser).sum, "==", "!=", "<=", ">=", "<", ">")
}

// sum reads what stands beside a test.
func (p *parser) sum() *part {
	return p.chain((*parser).prod, "+", "-")
}

// prod reads what stands between each two of + and -.
func (p *parser) prod() *part {
	return p.chain((*parser).neg, "*", "/", "%")
}

// neg reads what stands between each two of *, / and %.
func (p *parser) neg() *part {
	return p.led((*parser).part, "neg", "-")
}

// chain reads what next does, and the same again behind each one of some signs: all of it is put together from the left.
func (p *parser) chain(next func(p *parser) *part, signs ...string) *part {
	made := next(p)
	for made != nil {
		op := p.sign(signs...)
		if op == "" {
			return made
		}
		made = join(op, "", made, next(p))
	}
	return nil
}

// pair reads what next does, and perhaps one of some signs, and the same again.
func (p *parser) pair(next func(p *parser) *part, signs ...string) *part {
	made := next(p)
	if made == nil {
		return nil
	}
	op := p.sign(signs...)
	if op == "" {
		return made
	}
	return join(op, "", made, next(p))
}

// led reads a sign, as often as it stands there, and what next does: the sign stands for an Op.
func (p *parser) led(next func(p *parser) *part, op, sign string) *part {
	many := 0
	for p.sign(sign) != "" {
		many++
	}
	made := next(p)
	for range many {
		made = join(op, "", made)
	}
	return made
}

// part reads what stands behind the last -: one thing, and what is taken out of it.
func (p *parser) part() *part {
	made := p.one()
	for made != nil {
		switch p.sign(".", "[") {
		case ".":
			made = p.get(made)
		case "[":
			made = p.at(made)
		default:
			return made
		}
	}
	return nil
}

// get reads a key, behind its point.
func (p *parser) get(from *part) *part {
	at := p.next()
	if strings.HasPrefix(p.s[at:], `"`) {
		key, ok := p.str(at)
		if !ok {
			return nil
		}
		return join("get", key, from)
	}
	behind := behindWord(p.s, at)
	if behind == at {
		return p.fail(at, api.ErrForm)
	}
	p.place = behind
	return join("get", p.s[at:behind], from)
}

// at reads an index, behind its bracket.
func (p *parser) at(from *part) *part {
	index := p.expr()
	if index == nil || !p.must("]") {
		return nil
	}
	return join("at", "", from, index)
}

// one reads what isn't put together by signs, or stands in parentheses.
func (p *parser) one() *part {
	at := p.next()
	switch {
	case at == len(p.s):
		return p.fail(at, api.ErrForm)
	case isDigit(p.s[at]):
		return p.int(at)
	case isLetter(p.s[at]):
		return p.word(at)
	case p.s[at] == '"':
		text, ok := p.str(at)
		if !ok {
			return nil
		}
		return lit(value.Text(text))
	}
	if !p.must("(") {
		return nil
	}
	made := p.expr()
	if made == nil || !p.must(")") {
		return nil
	}
	return made
}

// int reads an int.
func (p *parser) int(at int) *part {
	behind := at
	for behind < len(p.s) && isDigit(p.s[behind]) {
		behind++
	}
	if p.s[at] == '0' && behind > at+1 {
		return p.fail(at+1, api.ErrForm)
	}
	n, e := whole.Parse(p.s[at:behind])
	if e != api.OK {
		return p.fail(at, e)
	}
	if behind < len(p.s) && isWithin(p.s[behind]) {
		return p.fail(behind, api.ErrForm)
	}
	p.place = behind
	return lit(value.Number(n))
}

// str reads a string: its text; false, if there is an error.
func (p *parser) str(at int) (string, bool) {
	t, place, e := token.New(p.s[at:]).Next()
	if e != api.OK {
		p.fail(at+place, e)
		return "", false
	}
	p.place = at + t.End
	return t.Text, true
}

// word reads what begins with a word or a name.
func (p *parser) word(at int) *part {
	behind := behindWord(p.s, at)
	word := p.s[at:behind]
	if word == "or" || word == "and" || word == "not" {
		return p.fail(at, api.ErrForm)
	}
	p.place = behind
	switch word {
	case "true", "false":
		return lit(value.Truth(word == "true"))
	case "null":
		return lit(value.Value{})
	case "this":
		return leaf(Expr{Op: "this"})
	}
	if many := argsOf(word); many > 0 {
		return p.call(word, many)
	}
	return leaf(Expr{Op: "var", Name: word})
}

// call reads a call's expressions, in their parentheses.
func (p *parser) call(name string, many int) *part {
	if !p.must("(") {
		return nil
	}
	var args []*part
	for len(args) < many {
		if len(args) > 0 && !p.another() {
			return nil
		}
		arg := p.expr()
		if arg == nil {
			return nil
		}
		args = append(args, arg)
	}
	if p.stands(",") {
		return p.fail(p.next(), api.ErrNone)
	}
	if !p.must(")") {
		return nil
	}
	return join(name, "", args...)
}

// another reads the comma ahead of an expression that a call must have.
func (p *parser) another() bool {
	if p.stands(")") {
		p.fail(p.next(), api.ErrNone)
		return false
	}
	return p.must(",")
}

// behindWord is the place behind a letter, and what letters, digits and _ follow; the place itself, if no letter stands there.
func behindWord(s string, at int) int {
	if at == len(s) || !isLetter(s[at]) {
		return at
	}
	for at < len(s) && (isWithin(s[at]) || isDigit(s[at])) {
		at++
	}
	return at
}

// isLetter: may a name begin with a byte?
func isLetter(c byte) bool {
	return 'a' <= c && c <= 'z' || 'A' <= c && c <= 'Z'
}

// isDigit: is a byte a digit?
func isDigit(c byte) bool {
	return '0' <= c && c <= '9'
}

// isWithin: does a byte that is no digit go on with a word?
func isWithin(c byte) bool {
	return isLetter(c) || c == '_'
}
