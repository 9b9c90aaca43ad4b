package term

import (
	"fmt"
	"math"
	"math/rand"
	"regexp"
	"slices"
	"strconv"
	"strings"
	"testing"

	"cheval/api"
	"cheval/expr"
	"cheval/iso"
	"cheval/token"
	"cheval/value"
)

// The chapter's grammar, a line for each way that a goal may go: the goal, what that begins with, and the goals it is made of, which are met one by one.
// A word or sign that isn't told of below stands for itself. # ends a term of that kind.
const grammar = `
	defs   gen    def more
	more   end
	more   gen    def more
	def    gen    gen = term ; def#
	term   just   just lit 0#
	term   int    int ( expr , expr ) 1#
	term   pick   pick ( alt alts ) 2#
	term   [      [ items ] 3#
	term   {      { fields } 4#
	term   list   list ( term , expr , expr ) 5#
	term   text   text ( string , expr , expr ) 6#
	term   gen    gen 7#
	term   let    let var = term from expr in term 8#
	term   where  where ( term , expr ) 9#
	term   map    map ( isos , term ) 10#
	lit    true   true
	lit    false  false
	lit    null   null
	lit    "      string
	lit    -      number
	lit    digit  number
	alt    digit  weight : term
	alt    else   one term
	alts   ,      , alt alts
	alts   else
	items  ]
	items  else   term others
	others ,      , term others
	others else
	fields }
	fields else   field again
	again  ,      , field again
	again  else
	field  "      key : term`

type way struct {
	begins string
	goals  []string
}

// ways are those of each goal.
var ways = func() map[string][]way {
	made := map[string][]way{}
	for _, line := range strings.Split(grammar, "\n")[1:] {
		words := strings.Fields(line)
		made[words[0]] = append(made[words[0]], way{words[1], words[2:]})
	}
	return made
}()

// The pieces of a text.
var (
	blankPiece  = regexp.MustCompile(`^[ \t\n\r]*`)
	wordPiece   = regexp.MustCompile(`^[A-Za-z][A-Za-z0-9_]*`)
	numberPiece = regexp.MustCompile(`^-?[0-9]+`)
	signPiece   = regexp.MustCompile(`^-?`)
	zeroGoesOn  = regexp.MustCompile(`^-?0[0-9]`)
)

// machine reads a text without a call in itself: with goals that wait, the next one last, and terms that are open.
type machine struct {
	s     string
	at    int
	goals []string
	open  []Term
	made  []Def
}

// told is what the words of the chapter tell of a text.
func told(s string) ([]Def, int, api.Errno) {
	if len(s) > 8192 {
		return nil, 0, api.ErrLong
	}
	m := &machine{s: s, goals: []string{"defs"}}
	for len(m.goals) > 0 {
		last := len(m.goals) - 1
		goal := m.goals[last]
		m.goals = m.goals[:last]
		if place, e := m.meet(goal); e != api.OK {
			return nil, place, e
		}
	}
	for _, d := range m.made {
		if depthOf(d.Term) > 32 {
			return nil, 0, api.ErrDeep
		}
	}
	return m.made, 0, api.OK
}

// stands: does such a thing begin at a place, behind the blanks?
func (m *machine) stands(what string, at int) bool {
	rest := m.s[at:]
	word := wordPiece.FindString(rest)
	switch what {
	case "else":
		return true
	case "end":
		return rest == ""
	case "gen":
		return word != "" && !slices.Contains(keywords, word)
	case "digit":
		return rest != "" && strings.Contains("0123456789", rest[:1])
	}
	if wordPiece.MatchString(what) {
		return word == what
	}
	return strings.HasPrefix(rest, what)
}

// meet goes on to a goal; or tells the error, and its place.
func (m *machine) meet(goal string) (int, api.Errno) {
	at := m.at + len(blankPiece.FindString(m.s[m.at:]))
	if len(ways[goal]) > 0 {
		return m.part(goal, at)
	}
	if kind, ends := strings.CutSuffix(goal, "#"); ends {
		m.end(kind)
		return 0, api.OK
	}
	top := &Term{}
	if len(m.open) > 0 {
		top = &m.open[len(m.open)-1]
	}
	e, place := api.OK, 0
	switch goal {
	case "expr":
		var x expr.Expr
		x, place, e = expr.Prefix(m.s, m.at)
		top.Exprs, m.at = append(top.Exprs, x), place
	case "isos":
		top.Isos, place, e = iso.Prefix(m.s, m.at)
		m.at = place
	case "string", "key":
		place, e = m.string(goal, at, top)
	case "number", "weight":
		place, e = m.number(goal, at, top)
	case "one":
		top.Weights = append(top.Weights, 1)
	case "gen", "var":
		place, e = m.name(goal, at, top)
	default:
		place, e = m.sign(goal, at, top)
	}
	return place, e
}

// part puts what a goal is made of in its place.
func (m *machine) part(goal string, at int) (int, api.Errno) {
	for _, w := range ways[goal] {
		if m.stands(w.begins, at) {
			if goal == "term" || goal == "def" {
				m.open = append(m.open, Term{})
			}
			goals := slices.Clone(w.goals)
			slices.Reverse(goals)
			m.goals = append(m.goals, goals...)
			return 0, api.OK
		}
	}
	return at, api.ErrForm
}

// end puts a term that is whole into the one that is open around it.
func (m *machine) end(kind string) {
	last := len(m.open) - 1
	t := m.open[last]
	m.open = m.open[:last]
	if kind == "def" {
		m.made = append(m.made, Def{t.Name, t.Parts[0]})
		return
	}
	t.Kind, _ = strconv.Atoi(kind)
	around := &m.open[last-1]
	around.Parts = append(around.Parts, t)
}

// sign reads a word or a sign.
func (m *machine) sign(goal string, at int, top *Term) (int, api.Errno) {
	if !m.stands(goal, at) {
		return at, api.ErrForm
	}
	if goal == "true" || goal == "false" {
		top.Lit = truth(goal == "true")
	}
	m.at = at + len(goal)
	return 0, api.OK
}

// name reads a gen or a var.
func (m *machine) name(goal string, at int, top *Term) (int, api.Errno) {
	word := wordPiece.FindString(m.s[at:])
	if word == "" || slices.Contains(keywords, word) || goal == "var" && isTaken(word) {
		return at, api.ErrForm
	}
	top.Name, m.at = word, at+len(word)
	return 0, api.OK
}

// isTaken: is a word one of chapter 8's own, or a call's name?
func isTaken(word string) bool {
	return slices.Contains(strings.Fields("or and not true false null this len sum min max all any keys has count starts ends join"), word)
}

// string reads a string.
func (m *machine) string(goal string, at int, top *Term) (int, api.Errno) {
	if !m.stands(`"`, at) {
		return at, api.ErrForm
	}
	t, place, e := token.New(m.s[at:]).Next()
	if e != api.OK {
		return at + place, e
	}
	if goal == "key" {
		top.Keys = append(top.Keys, t.Text)
	} else {
		top.Lit = str(t.Text)
	}
	m.at = at + t.End
	return 0, api.OK
}

// number reads a number or a weight.
func (m *machine) number(goal string, at int, top *Term) (int, api.Errno) {
	digits := numberPiece.FindString(m.s[at:])
	n, err := strconv.ParseInt(digits, 10, 64)
	switch zero := zeroGoesOn.FindString(m.s[at:]); {
	case digits == "":
		return at + len(signPiece.FindString(m.s[at:])), api.ErrForm
	case zero != "":
		return at + len(zero) - 1, api.ErrForm
	case err != nil:
		return at, api.ErrNumber
	}
	if goal == "weight" {
		top.Weights = append(top.Weights, int(n))
	} else {
		top.Lit = number(n)
	}
	m.at = at + len(digits)
	return 0, api.OK
}

// checkText: is a text parsed as the words tell?
func checkText(t *testing.T, s string) {
	t.Helper()
	want, wantPlace, wantE := told(s)
	checkAnswer(t, s, want, wantPlace, wantE)
}

// checkAnswer: is a text parsed as is told?
func checkAnswer(t *testing.T, s string, want []Def, wantPlace int, wantE api.Errno) {
	t.Helper()
	got, place, e := Parse(s)
	if !alikeDefs(got, want) || place != wantPlace || e != wantE {
		t.Errorf("P13.1: Parse(%.300q): %.300q, %d, %d; want %.300q, %d, %d", s, toldPrint(got), place, e, toldPrint(want), wantPlace, wantE)
	}
}

func TestParse(t *testing.T) { // P13.1
	one, two, x, a, b := num(1), num(2), name("x"), ref("a"), ref("b")
	for s, want := range map[string]Term{
		// Just.
		"just null": just(value.Value{}), "just true": just(truth(true)), "just false": just(truth(false)), "just 0": just(number(0)), "just -0": just(number(0)), "just 10": just(number(10)), "just -1": just(number(-1)), "just-1": just(number(-1)), "just\n\t\r 7": just(number(7)), "just 9223372036854775807": just(number(math.MaxInt64)), "just -9223372036854775808": just(number(math.MinInt64)), `just ""`: just(str("")), `just"a"`: just(str("a")), `just "\u0061\n\ud83d\ude00"`: just(str("a\n\U0001F600")), `just ";"`: just(str(";")), "just \"\u20ac\x7f\"": just(str("\u20ac\x7f")),
		// Range.
		"int(1,2)": ints(one, two), "int ( 1 , 2 )": ints(one, two), "int(-1, 1 + 2)": ints(op("neg", one), op("+", one, two)), "int((1), x)": ints(one, x), "int(in, from)": ints(name("in"), name("from")), "int(this, len(x))": ints(this(), op("len", x)), "int(not x, x or x)": ints(op("not", x), op("or", x, x)), `int("a", null)`: ints(lit(str("a")), lit(value.Value{})), "int(has(1,2),1)": ints(op("has", one, two), one),
		// Pick.
		"pick(a)": pick(a), "pick(a,b)": pick(a, b), "pick ( a , b )": pick(a, b), "pick(1:a)": pick(a), "pick(2:a,b)": weighed([]int{2, 1}, a, b), "pick(a,3 : b)": weighed([]int{1, 3}, a, b), "pick( 2 :a , 10: b)": weighed([]int{2, 10}, a, b), "pick(0:a)": weighed([]int{0}, a), "pick(9223372036854775807:a)": weighed([]int{math.MaxInt64}, a), "pick(2: just 1, [a])": weighed([]int{2, 1}, just(number(1)), tuple(a)), "pick(just 1, 2: just 3)": weighed([]int{1, 2}, just(number(1)), just(number(3))), "pick(pick(2:a),b)": pick(weighed([]int{2}, a), b), "pick(1001: a)": weighed([]int{1001}, a), "pick(1:[],1:{})": pick(tuple(), record("")),
		// Tuple.
		"[]": tuple(), "[ ]": tuple(), "[a]": tuple(a), "[a,b]": tuple(a, b), "[ a , b ]": tuple(a, b), "[[],[[]]]": tuple(tuple(), tuple(tuple())), "[just 1,a]": tuple(just(number(1)), a), "[true, false, null]": tuple(ref("true"), ref("false"), ref("null")),
		// Record.
		"{}": record(""), "{ }": record(""), `{"k":a}`: record("k", a), `{"k":a,"l":b}`: record("k l", a, b), `{ "l" : a , "k" : b }`: record("l k", a, b), `{"k":a,"k":a}`: record("k k", a, a), `{"\u006b":{}}`: record("k", record("")), `{"":a}`: {Kind: Record, Keys: []string{""}, Parts: []Term{a}}, `{"k":just"k"}`: record("k", just(str("k"))),
		// List.
		"list(a,1,2)": many(a, one, two), "list ( a , 1 , 2 )": many(a, one, two), "list(list(a,1,1),2,x)": many(many(a, one, one), two, x), "list([a,b],1,2)": many(tuple(a, b), one, two), "list(just 1,1,2)": many(just(number(1)), one, two),
		// Text.
		`text("ab",1,2)`: chars("ab", one, two), `text ( "" , 1 , x )`: chars("", one, x), `text("\u0061a",x,x)`: chars("aa", x, x), `text("x,1,2)",1,2)`: chars("x,1,2)", one, two),
		// Ref.
		"a": a, "true": ref("true"), "or": ref("or"), "this": ref("this"), "len": ref("len"), "just1": ref("just1"), "Just": ref("Just"), "ints": ref("ints"), "letx": ref("letx"), "in_": ref("in_"), "x_1": ref("x_1"), "fromm": ref("fromm"), "neg": ref("neg"), "justtrue": ref("justtrue"), "A9_": ref("A9_"),
		// Bind.
		"let x=a from this in b": let("x", a, this(), b), "let x = a from 1 in b": let("x", a, one, b), "let\nx\t=\ra\nfrom\n1\nin\nb": let("x", a, one, b), "let x=[]from(1)in[]": let("x", tuple(), one, tuple()), `let x = {} from"k"in{}`: let("x", record(""), lit(str("k")), record("")), "let x = a from in in b": let("x", a, name("in"), b), "let x = a from this.in in b": let("x", a, get(this(), "in"), b), "let x = a from from in in_": let("x", a, name("from"), ref("in_")), "let x = from_ from-1 in b": let("x", ref("from_"), op("neg", one), b), "let x = let y = a from 1 in b from 2 in a": let("x", let("y", a, one, b), two, a), "let x = a from 1 in let y = b from 2 in a": let("x", a, one, let("y", b, two, a)), "let a = a from a in a": let("a", a, name("a"), a), "let orx = a from x or x in b": let("orx", a, op("or", x, x), b), "let x = a from x.from in b": let("x", a, get(x, "from"), b), "let Or=a from x[1]in b": let("Or", a, op("at", x, one), b),
		// Where.
		"where(a,true)": where(a, lit(truth(true))), "where ( a , this == x )": where(a, op("==", this(), x)), "where(where(a,1),2)": where(where(a, one), two), "where(just 1, 2)": where(just(number(1)), two),
		// Map.
		"map(neg,a)": mapped(isos("neg"), a), "map ( neg | rev , a )": mapped(isos("neg rev"), a), "map(plus 2|times -3,[a])": mapped([]iso.Iso{{Name: "plus", N: 2}, {Name: "times", N: -3}}, tuple(a)), `map(tag"k"|box,a)`: mapped([]iso.Iso{{Name: "tag", Key: "k"}, {Name: "box"}}, a), "map(box,map(box,a))": mapped(isos("box"), mapped(isos("box"), a)),
	} {
		for _, c := range []struct {
			s    string
			want []Def
		}{
			{"a=" + s + ";", []Def{{"a", want}}},
			{" \n or\t= \r" + s + "\n; ", []Def{{"or", want}}},
			{"a=a;b1=" + s + ";c_=" + s + ";", []Def{{"a", a}, {"b1", want}, {"c_", want}}},
			{"x = [" + s + ", " + s + "];", []Def{{"x", tuple(want, want)}}},
			{"x=pick(" + s + ",7:" + s + ");", []Def{{"x", weighed([]int{1, 7}, want, want)}}},
			{"x=list(" + s + ",1,2);", []Def{{"x", many(want, one, two)}}},
			{`x={"k":` + s + "};", []Def{{"x", record("k", want)}}},
			{"x=let x=" + s + " from 1 in " + s + ";", []Def{{"x", let("x", want, one, want)}}},
			{"x=where(" + s + ",1);", []Def{{"x", where(want, one)}}},
			{"x=map(neg," + s + ");", []Def{{"x", mapped(isos("neg"), want)}}},
		} {
			checkAnswer(t, c.s, c.want, 0, api.OK)
			checkText(t, c.s)
		}
		checkTerm(t, want)
	}
	for s, want := range map[string][]Def{
		"a=a;": {{"a", a}}, " a = a ; ": {{"a", a}}, "\t\n\ra\t\n\r=\t\n\ra\t\n\r;\t\n\r": {{"a", a}}, "a=b;b=a;": {{"a", b}, {"b", a}}, "a=a;a=b;": {{"a", a}, {"a", b}}, "or=and;and=or;": {{"or", ref("and")}, {"and", ref("or")}}, "len=true;": {{"len", ref("true")}}, "a = pick(2: just 1, [a]);": {{"a", weighed([]int{2, 1}, just(number(1)), tuple(a))}},
		strings.Repeat(" ", 8188) + "a=b;": {{"a", b}}, "a=b;" + strings.Repeat("\n", 8188): {{"a", b}}, "a=b" + strings.Repeat("c", 8188) + ";": {{"a", ref("b" + strings.Repeat("c", 8188))}},
	} {
		checkAnswer(t, s, want, 0, api.OK)
		checkText(t, s)
		checkDefs(t, want)
	}
}

// errors are terms that are none, the first error, and its place in them.
var errors = map[string]struct {
	place int
	e     api.Errno
}{
	// A term must stand.
	"": {0, api.ErrForm}, ";": {0, api.ErrForm}, " ;": {1, api.ErrForm}, "=": {0, api.ErrForm}, "1": {0, api.ErrForm}, "-1": {0, api.ErrForm}, `"a"`: {0, api.ErrForm}, "_a": {0, api.ErrForm}, "(a)": {0, api.ErrForm}, ")": {0, api.ErrForm}, "]": {0, api.ErrForm}, "}": {0, api.ErrForm}, ",": {0, api.ErrForm}, ":": {0, api.ErrForm}, "from": {0, api.ErrForm}, "in": {0, api.ErrForm}, " from a": {1, api.ErrForm}, "\u00e9": {0, api.ErrForm}, "\xff": {0, api.ErrForm}, "\x00": {0, api.ErrForm}, "\va": {0, api.ErrForm}, "\u00a0a": {0, api.ErrForm}, "@": {0, api.ErrForm}, "|": {0, api.ErrForm}, "[": {1, api.ErrForm},
	// It ends.
	"a b": {2, api.ErrForm}, "a,": {1, api.ErrForm}, "a)": {1, api.ErrForm}, "a]": {1, api.ErrForm}, "a=b": {1, api.ErrForm}, "a\u00e9": {1, api.ErrForm}, "a\xff": {1, api.ErrForm}, "a(1)": {1, api.ErrForm}, "a.b": {1, api.ErrForm}, "a from": {2, api.ErrForm}, "a in b": {2, api.ErrForm}, "a-b": {1, api.ErrForm}, "a \"": {2, api.ErrForm}, "[] []": {3, api.ErrForm}, "{}1": {2, api.ErrForm}, "int(1,2)3": {8, api.ErrForm}, "pick(a)b": {7, api.ErrForm}, "map(neg,a) | neg": {11, api.ErrForm}, "true false": {5, api.ErrForm}, "let1 x": {5, api.ErrForm}, "Let x = a from 1 in b": {4, api.ErrForm}, "INT(1,2)": {3, api.ErrForm}, "int1(1,2)": {4, api.ErrForm}, "int_(1,2)": {4, api.ErrForm}, "picka": {-1, api.OK},
	// Just.
	"just": {4, api.ErrForm}, "just ": {5, api.ErrForm}, "just ;": {5, api.ErrForm}, "just a": {5, api.ErrForm}, "just truex": {5, api.ErrForm}, "just True": {5, api.ErrForm}, "just nul": {5, api.ErrForm}, "just nulll": {5, api.ErrForm}, "just null_": {5, api.ErrForm}, "just true1": {5, api.ErrForm}, "just this": {5, api.ErrForm}, "just just 1": {5, api.ErrForm}, "just int": {5, api.ErrForm}, "just []": {5, api.ErrForm}, "just {}": {5, api.ErrForm}, "just (1)": {5, api.ErrForm}, "just +1": {5, api.ErrForm}, "just .5": {5, api.ErrForm}, "just 'a'": {5, api.ErrForm}, "just \u0661": {5, api.ErrForm}, "just\u00e9": {4, api.ErrForm}, "just\xff": {4, api.ErrForm}, "just=": {4, api.ErrForm}, "just _": {5, api.ErrForm},
	"just -": {6, api.ErrForm}, "just -;": {6, api.ErrForm}, "just - 1": {6, api.ErrForm}, "just --1": {6, api.ErrForm}, "just -x": {6, api.ErrForm}, "just-": {5, api.ErrForm}, "just -\"": {6, api.ErrForm}, "just -\xff": {6, api.ErrForm}, "just  -true": {7, api.ErrForm}, "just -+1": {6, api.ErrForm},
	"just 00": {6, api.ErrForm}, "just 01": {6, api.ErrForm}, "just -00": {7, api.ErrForm}, "just -01": {7, api.ErrForm}, "just-07": {6, api.ErrForm}, "just 0x": {6, api.ErrForm}, "just 0_": {6, api.ErrForm}, "just 0 1": {7, api.ErrForm}, "just 1.5": {6, api.ErrForm}, "just 1e5": {6, api.ErrForm}, "just 1E5": {6, api.ErrForm}, "just 0.0": {6, api.ErrForm}, "just 1x": {6, api.ErrForm}, "just 1_": {6, api.ErrForm}, "just 1 2": {7, api.ErrForm}, "just 1-2": {6, api.ErrForm}, "just 1\"a\"": {6, api.ErrForm}, "just true 1": {10, api.ErrForm}, "just null null": {10, api.ErrForm}, "just 09223372036854775808": {6, api.ErrForm}, "just -099999999999999999999": {7, api.ErrForm}, "just 00.5": {6, api.ErrForm},
	"just 9223372036854775808": {5, api.ErrNumber}, "just -9223372036854775809": {5, api.ErrNumber}, "just-9223372036854775809": {4, api.ErrNumber}, "just  18446744073709551616": {6, api.ErrNumber}, "just 99999999999999999999x": {5, api.ErrNumber}, "just 9223372036854775808.5": {5, api.ErrNumber}, "just 9223372036854775808 @": {5, api.ErrNumber}, "just " + strings.Repeat("9", 5000): {5, api.ErrNumber},
	`just "`: {6, api.ErrForm}, `just "a`: {7, api.ErrForm}, `just "a;`: {8, api.ErrForm}, `just "\q"`: {7, api.ErrForm}, "just \"a\n\"": {7, api.ErrForm}, `just "\u12"`: {10, api.ErrForm}, "just \"\xff\"": {6, api.ErrUTF}, "just\"\xed\xa0\x80\"": {5, api.ErrUTF}, `just "\ud800"`: {6, api.ErrLone}, `just  "a\udc00"`: {8, api.ErrLone}, `just "a""b"`: {8, api.ErrForm}, `just "a"b`: {8, api.ErrForm}, `just "a" b`: {9, api.ErrForm},
	// Range.
	"int": {3, api.ErrForm}, "int ": {4, api.ErrForm}, "int 1": {4, api.ErrForm}, "int[1,2]": {3, api.ErrForm}, "int(": {4, api.ErrForm}, "int()": {4, api.ErrForm}, "int( )": {5, api.ErrForm}, "int(1": {5, api.ErrForm}, "int(1)": {5, api.ErrForm}, "int(1 )": {6, api.ErrForm}, "int(1,": {6, api.ErrForm}, "int(1,)": {6, api.ErrForm}, "int(1,,2)": {6, api.ErrForm}, "int(,1)": {4, api.ErrForm}, "int(1,2": {7, api.ErrForm}, "int(1,2 ": {8, api.ErrForm}, "int(1,2,3)": {7, api.ErrForm}, "int(1;2)": {5, api.ErrForm}, "int(1 2)": {6, api.ErrForm}, "int(1:2)": {5, api.ErrForm}, "int(1,2]": {7, api.ErrForm}, "int(1,2;": {7, api.ErrForm}, "int(1 == 1 == 1,2)": {11, api.ErrForm}, "int(x y,1)": {6, api.ErrForm}, "int(x in y,1)": {6, api.ErrForm},
	"int(01,2)": {5, api.ErrForm}, "int(1x,2)": {5, api.ErrForm}, "int(1,00)": {7, api.ErrForm}, "int(9223372036854775808,1)": {4, api.ErrNumber}, "int(1, -9223372036854775808)": {8, api.ErrNumber}, "int(len(),1)": {8, api.ErrForm}, "int(len(1,2),1)": {9, api.ErrNone}, "int(1,has(1))": {11, api.ErrNone}, "int(or,1)": {4, api.ErrForm}, "int([],1)": {4, api.ErrForm}, "int(\"\xff\",1)": {5, api.ErrUTF}, `int(1,"\ud800")`: {7, api.ErrLone}, `int(1,x."`: {9, api.ErrForm}, "int(x.1,2)": {6, api.ErrForm}, "int(@,1)": {4, api.ErrForm}, "int(1 +,2)": {7, api.ErrForm}, "int(1,2 +)": {9, api.ErrForm}, "int({},1)": {4, api.ErrForm}, "int(\xff": {4, api.ErrForm},
	"int(" + strings.Repeat("-", 32) + "1,2)": {4, api.ErrDeep}, "int( " + strings.Repeat("-", 32) + "1 @": {4, api.ErrDeep}, "int(1, " + strings.Repeat("not ", 32) + "x)": {6, api.ErrDeep}, "int(" + strings.Repeat("-", 32) + "1 + ,2)": {40, api.ErrForm}, "int(" + strings.Repeat("-", 32) + "01,2)": {37, api.ErrForm},
	// Pick.
	"pick": {4, api.ErrForm}, "pick a": {5, api.ErrForm}, "pick[a]": {4, api.ErrForm}, "pick(": {5, api.ErrForm}, "pick()": {5, api.ErrForm}, "pick( )": {6, api.ErrForm}, "pick(a": {6, api.ErrForm}, "pick(a ": {7, api.ErrForm}, "pick(a,)": {7, api.ErrForm}, "pick(a,": {7, api.ErrForm}, "pick(,a)": {5, api.ErrForm}, "pick(a b)": {7, api.ErrForm}, "pick(a;b)": {6, api.ErrForm}, "pick(a]": {6, api.ErrForm}, "pick(:a)": {5, api.ErrForm}, "pick(a:b)": {6, api.ErrForm}, "pick(2)": {6, api.ErrForm}, "pick(2 )": {7, api.ErrForm}, "pick(2": {6, api.ErrForm}, "pick(2:": {7, api.ErrForm}, "pick(2:)": {7, api.ErrForm}, "pick(2: ,a)": {8, api.ErrForm}, "pick(2 a)": {7, api.ErrForm}, "pick(2a)": {6, api.ErrForm}, "pick(2x:a)": {6, api.ErrForm}, "pick(2::a)": {7, api.ErrForm}, "pick(2:3:a)": {7, api.ErrForm}, "pick(2.5:a)": {6, api.ErrForm}, "pick(-2:a)": {5, api.ErrForm}, "pick(+2:a)": {5, api.ErrForm}, "pick(a,-1:b)": {7, api.ErrForm}, "pick(-:a)": {5, api.ErrForm}, `pick("2":a)`: {5, api.ErrForm}, "pick((2):a)": {5, api.ErrForm}, "pick(2 2:a)": {7, api.ErrForm}, "pick(1:a,2)": {10, api.ErrForm}, "pick(x:a)": {6, api.ErrForm}, "pick(just:a)": {9, api.ErrForm}, "pick(in)": {5, api.ErrForm},
	"pick(00:a)": {6, api.ErrForm}, "pick(01:a)": {6, api.ErrForm}, "pick(a, 07:b)": {9, api.ErrForm}, "pick(0x:a)": {6, api.ErrForm}, "pick(09223372036854775808:a)": {6, api.ErrForm}, "pick(9223372036854775808:a)": {5, api.ErrNumber}, "pick(1:a, 99999999999999999999 b)": {10, api.ErrNumber}, "pick(99999999999999999999x": {5, api.ErrNumber}, "pick(a,9223372036854775808": {7, api.ErrNumber},
	// Tuple.
	"[ ": {2, api.ErrForm}, "[a": {2, api.ErrForm}, "[a ": {3, api.ErrForm}, "[a,": {3, api.ErrForm}, "[a,]": {3, api.ErrForm}, "[,]": {1, api.ErrForm}, "[,a]": {1, api.ErrForm}, "[a b]": {3, api.ErrForm}, "[a,,b]": {3, api.ErrForm}, "[a}": {2, api.ErrForm}, "[a)": {2, api.ErrForm}, "[}": {1, api.ErrForm}, "[a;]": {2, api.ErrForm}, "[1]": {1, api.ErrForm}, "[2:a]": {1, api.ErrForm}, "[a:b]": {2, api.ErrForm}, "[]]": {2, api.ErrForm}, "[[]": {3, api.ErrForm}, "[from]": {1, api.ErrForm}, "[a,in]": {3, api.ErrForm},
	// Record.
	"{": {1, api.ErrForm}, "{ ": {2, api.ErrForm}, "{a:b}": {1, api.ErrForm}, "{1:a}": {1, api.ErrForm}, "{,}": {1, api.ErrForm}, "{]": {1, api.ErrForm}, `{"k"`: {4, api.ErrForm}, `{"k"}`: {4, api.ErrForm}, `{"k" }`: {5, api.ErrForm}, `{"k":`: {5, api.ErrForm}, `{"k":}`: {5, api.ErrForm}, `{"k":a`: {6, api.ErrForm}, `{"k":a,`: {7, api.ErrForm}, `{"k":a,}`: {7, api.ErrForm}, `{"k":a "l":b}`: {7, api.ErrForm}, `{"k" a}`: {5, api.ErrForm}, `{"k"=a}`: {4, api.ErrForm}, `{"k":a]`: {6, api.ErrForm}, `{"k":a;`: {6, api.ErrForm}, `{"k":"a"}`: {5, api.ErrForm}, `{"k":1}`: {5, api.ErrForm}, `{"k":2:a}`: {5, api.ErrForm}, `{"k":a,l:b}`: {7, api.ErrForm}, `{"k":a,,`: {7, api.ErrForm}, `{k}`: {1, api.ErrForm}, `{'k':a}`: {1, api.ErrForm}, "{}}": {2, api.ErrForm}, `{null:a}`: {1, api.ErrForm},
	`{"`: {2, api.ErrForm}, `{"k`: {3, api.ErrForm}, `{"\x":a}`: {3, api.ErrForm}, "{\"\xff\":a}": {2, api.ErrUTF}, `{ "\ud800":a}`: {3, api.ErrLone}, `{"k":a,"\udc00":b}`: {8, api.ErrLone}, "{\"\x1f\":a}": {2, api.ErrForm},
	// List.
	"list": {4, api.ErrForm}, "list a": {5, api.ErrForm}, "list(": {5, api.ErrForm}, "list()": {5, api.ErrForm}, "list(a": {6, api.ErrForm}, "list(a)": {6, api.ErrForm}, "list(a,": {7, api.ErrForm}, "list(a,)": {7, api.ErrForm}, "list(a,1": {8, api.ErrForm}, "list(a,1)": {8, api.ErrForm}, "list(a,1,": {9, api.ErrForm}, "list(a,1,)": {9, api.ErrForm}, "list(a,1,2": {10, api.ErrForm}, "list(a,1,2,3)": {10, api.ErrForm}, "list(,1,2)": {5, api.ErrForm}, "list(a,,2)": {7, api.ErrForm}, "list(1,a,2)": {5, api.ErrForm}, "list(a 1,2)": {7, api.ErrForm}, "list(2:a,1,2)": {5, api.ErrForm}, "list(a,[],2)": {7, api.ErrForm}, "list(a,1,01)": {10, api.ErrForm}, "list(a,1,x.y.)": {13, api.ErrForm}, "list(a;1": {6, api.ErrForm}, "list(a,1,2]": {10, api.ErrForm}, "list(a," + strings.Repeat("-", 32) + "1,01)": {7, api.ErrDeep},
	// Text.
	"text": {4, api.ErrForm}, "text \"a\"": {5, api.ErrForm}, "text(": {5, api.ErrForm}, "text()": {5, api.ErrForm}, "text(a,1,2)": {5, api.ErrForm}, "text(1,1,2)": {5, api.ErrForm}, "text(,1,2)": {5, api.ErrForm}, `text("a"`: {8, api.ErrForm}, `text("a")`: {8, api.ErrForm}, `text("a",`: {9, api.ErrForm}, `text("a",1)`: {10, api.ErrForm}, `text("a",1,)`: {11, api.ErrForm}, `text("a",1,2`: {12, api.ErrForm}, `text("a" 1,2)`: {9, api.ErrForm}, `text("a",1,2,3)`: {12, api.ErrForm}, `text("a"+"b",1,2)`: {8, api.ErrForm}, `text("`: {6, api.ErrForm}, "text( \"\xff": {7, api.ErrUTF}, `text("\ud83d",1,2)`: {6, api.ErrLone}, "text(true,1,2)": {5, api.ErrForm}, "text(null,1,2)": {5, api.ErrForm}, `text("a",1,18446744073709551616)`: {11, api.ErrNumber},
	// Bind.
	"let": {3, api.ErrForm}, "let ": {4, api.ErrForm}, "let 1": {4, api.ErrForm}, "let =": {4, api.ErrForm}, "let _x = a": {4, api.ErrForm}, `let "x" = a`: {4, api.ErrForm}, "let(x)": {3, api.ErrForm}, "let or = a from 1 in b": {4, api.ErrForm}, "let this = a": {4, api.ErrForm}, "let null = a": {4, api.ErrForm}, "let true=a": {4, api.ErrForm}, "let len = a": {4, api.ErrForm}, "let join = a": {4, api.ErrForm}, "let let = a": {4, api.ErrForm}, "let in = a": {4, api.ErrForm}, "let from = a": {4, api.ErrForm}, "let map=a": {4, api.ErrForm}, "let just = a": {4, api.ErrForm}, "let  text = a": {5, api.ErrForm}, "let not": {4, api.ErrForm}, "let \u00e9 = a": {4, api.ErrForm},
	"let x": {5, api.ErrForm}, "let x ": {6, api.ErrForm}, "let x a": {6, api.ErrForm}, "let x: a": {5, api.ErrForm}, "let x y = a": {6, api.ErrForm}, "let x =": {7, api.ErrForm}, "let x = ;": {8, api.ErrForm}, "let x == a": {7, api.ErrForm}, "let x = from 1 in b": {8, api.ErrForm}, "let x = 1 from 1 in b": {8, api.ErrForm}, "let x = a": {9, api.ErrForm}, "let x = a;": {9, api.ErrForm}, "let x = a 1 in b": {10, api.ErrForm}, "let x = a in b": {10, api.ErrForm}, "let x = a From 1 in b": {10, api.ErrForm}, "let x = a from1 in b": {10, api.ErrForm}, "let x = a fromx in b": {10, api.ErrForm}, "let x = afrom 1 in b": {14, api.ErrForm}, "let x = a from": {14, api.ErrForm}, "let x = a from ": {15, api.ErrForm}, "let x = a from ;": {15, api.ErrForm}, "let x = a from in b": {18, api.ErrForm}, "let x = a from in": {17, api.ErrForm}, "let x = a from 1": {16, api.ErrForm}, "let x = a from 1 ;": {17, api.ErrForm}, "let x = a from 1 b": {17, api.ErrForm}, "let x = a from 1in b": {16, api.ErrForm}, "let x = a from 1 inb": {17, api.ErrForm}, "let x = a from y inb": {17, api.ErrForm}, "let x = a from 1 In b": {17, api.ErrForm}, "let x = a from 1 in": {19, api.ErrForm}, "let x = a from 1 in ": {20, api.ErrForm}, "let x = a from 1 in ;": {20, api.ErrForm}, "let x = a from 1 in 2": {20, api.ErrForm}, "let x = a from 1 in in": {20, api.ErrForm}, "let x = a from 1 in b c": {22, api.ErrForm}, "let x = a from y.in b": {20, api.ErrForm}, "let x = a from x or in b": {23, api.ErrForm}, "let x = a from 1 < 2 < 3 in b": {21, api.ErrForm}, "let x = a from 01 in b": {16, api.ErrForm}, "let x = a from has(1) in b": {20, api.ErrNone}, "let x = a from 9223372036854775808 in b": {15, api.ErrNumber}, "let x = a from\n\n" + strings.Repeat("-", 32) + "1 in b": {14, api.ErrDeep}, "let x = a from" + strings.Repeat("-", 32) + "1 out b": {14, api.ErrDeep}, "let x = a from (" + strings.Repeat("-", 32) + "1 in b": {50, api.ErrForm},
	// Where.
	"where": {5, api.ErrForm}, "where a": {6, api.ErrForm}, "where(": {6, api.ErrForm}, "where()": {6, api.ErrForm}, "where(a": {7, api.ErrForm}, "where(a)": {7, api.ErrForm}, "where(a,": {8, api.ErrForm}, "where(a,)": {8, api.ErrForm}, "where(a,1": {9, api.ErrForm}, "where(a,1,2)": {9, api.ErrForm}, "where(a,1 2)": {10, api.ErrForm}, "where(1,a)": {6, api.ErrForm}, "where(a,this = 1)": {13, api.ErrForm}, "where(a;1)": {7, api.ErrForm}, "where(a,1]": {9, api.ErrForm}, "where(a,just 1)": {13, api.ErrForm}, "where(a,keys(1, 2))": {14, api.ErrNone}, "where(a, " + strings.Repeat("x+", 32) + "x)": {8, api.ErrDeep},
	// Map.
	"map": {3, api.ErrForm}, "map neg": {4, api.ErrForm}, "map(": {4, api.ErrForm}, "map()": {4, api.ErrForm}, "map(,a)": {4, api.ErrForm}, "map(a)": {4, api.ErrName}, "map( a,b)": {5, api.ErrName}, "map(just,a)": {4, api.ErrName}, "map(neg2,a)": {4, api.ErrName}, "map(Neg,a)": {4, api.ErrName}, "map(neg": {7, api.ErrForm}, "map(neg)": {7, api.ErrForm}, "map(neg )": {8, api.ErrForm}, "map(neg,": {8, api.ErrForm}, "map(neg,)": {8, api.ErrForm}, "map(neg,a": {9, api.ErrForm}, "map(neg,a,b)": {9, api.ErrForm}, "map(neg a)": {8, api.ErrForm}, "map(neg|,a)": {8, api.ErrForm}, "map(neg|a,a)": {8, api.ErrName}, "map(|neg,a)": {4, api.ErrForm}, "map(neg,rev,a)": {11, api.ErrForm}, "map(neg;a)": {7, api.ErrForm}, "map(neg,1)": {8, api.ErrForm}, "map(neg,a]": {9, api.ErrForm}, "map(plus,a)": {8, api.ErrForm}, "map(plus -,a)": {10, api.ErrForm}, "map(plus x,a)": {9, api.ErrForm}, "map(plus 01,a)": {10, api.ErrForm}, "map(plus 9223372036854775808,a)": {9, api.ErrNumber}, "map(times 0,a)": {10, api.ErrRange}, "map(neg | times -0,a)": {16, api.ErrRange}, "map(tag,a)": {7, api.ErrForm}, "map(tag k,a)": {8, api.ErrForm}, `map(tag ",a)`: {12, api.ErrForm}, "map(tag \"\xff\",a)": {9, api.ErrUTF}, `map(tag "\ud800",a)`: {9, api.ErrLone}, "map(1,a)": {4, api.ErrForm}, "map(plus 2x,a)": {10, api.ErrForm}, "map(plus 2.5,a)": {10, api.ErrForm},
	// The first one from the left is told.
	"[just 01, just 99999999999999999999]": {7, api.ErrForm}, "[just 99999999999999999999, just 01]": {6, api.ErrNumber}, "pick(int(1,has(1)), map(x,a))": {16, api.ErrNone}, "pick(map(x,a), int(1,has(1)))": {9, api.ErrName}, "[int(1," + strings.Repeat("-", 32) + "1), \"": {7, api.ErrDeep},
	// A term that is too deep is told only where nothing else is wrong.
	strings.Repeat("[", 33): {33, api.ErrForm}, strings.Repeat("[", 33) + strings.Repeat("]", 32) + ";": {65, api.ErrForm}, strings.Repeat("[", 33) + "just 99999999999999999999": {38, api.ErrNumber}, strings.Repeat("[", 40) + "map(x": {44, api.ErrName}, strings.Repeat("[", 40) + "int(" + strings.Repeat("-", 32) + "1": {44, api.ErrDeep}, strings.Repeat("[", 40) + "\"": {40, api.ErrForm},
}

func TestErrors(t *testing.T) { // P13.1
	for s, x := range errors {
		for _, ahead := range []string{"a=", "a = ", " or\n=", "a=a;b=", "a = [[], " + strings.Repeat("[", 40) + strings.Repeat("]", 40) + "]; b ="} {
			text := ahead + s
			if x.e == api.OK {
				checkText(t, text+";")
				continue
			}
			checkAnswer(t, text, nil, len(ahead)+x.place, x.e)
			checkText(t, text)
			checkText(t, text+";")
		}
	}
}

func TestErrorsOfDefinitions(t *testing.T) { // P13.1
	for s, x := range map[string]struct {
		place int
		e     api.Errno
	}{
		"": {0, api.ErrForm}, " \t\n\r": {4, api.ErrForm}, ";": {0, api.ErrForm}, "=": {0, api.ErrForm}, "1=a;": {0, api.ErrForm}, "_=a;": {0, api.ErrForm}, "\xff": {0, api.ErrForm}, "\u00e9=a;": {0, api.ErrForm}, `"a"=a;`: {0, api.ErrForm}, "[]": {0, api.ErrForm}, " -": {1, api.ErrForm}, "\x00": {0, api.ErrForm}, "\ufeffa=a;": {0, api.ErrForm},
		"a": {1, api.ErrForm}, "a ": {2, api.ErrForm}, "a;": {1, api.ErrForm}, "a a": {2, api.ErrForm}, "a:a;": {1, api.ErrForm}, "a-b=a;": {1, api.ErrForm}, "a.b=a;": {1, api.ErrForm}, "a(": {1, api.ErrForm}, "a\xff=a;": {1, api.ErrForm}, "a\u00e9=a;": {1, api.ErrForm}, "ab c=a;": {3, api.ErrForm},
		"a=": {2, api.ErrForm}, "a= ": {3, api.ErrForm}, "a=;": {2, api.ErrForm}, "a==a;": {2, api.ErrForm}, "a = =": {4, api.ErrForm}, "a=a": {3, api.ErrForm}, "a=a ": {4, api.ErrForm}, "a=a,": {3, api.ErrForm}, "a=a:": {3, api.ErrForm}, "a=a b=b;": {4, api.ErrForm}, "a=a=a;": {3, api.ErrForm},
		"a=a;;": {4, api.ErrForm}, "a=a; ;": {5, api.ErrForm}, "a=a;b": {5, api.ErrForm}, "a=a;b=": {6, api.ErrForm}, "a=a;b=b": {7, api.ErrForm}, "a=a;1": {4, api.ErrForm}, "a=a;=": {4, api.ErrForm}, "a=a; \xff": {5, api.ErrForm}, "a=a;,b=b;": {4, api.ErrForm}, "a=a;b=1;c=": {6, api.ErrForm}, "a=a;\x00": {4, api.ErrForm}, "a=a;)": {4, api.ErrForm},
	} {
		checkAnswer(t, s, nil, x.place, x.e)
		checkText(t, s)
	}
	for _, word := range keywords {
		checkAnswer(t, word+"=a;", nil, 0, api.ErrForm)
		checkAnswer(t, "a=a; "+word+" = a;", nil, 5, api.ErrForm)
		checkAnswer(t, "x = let "+word+" = a from 1 in b;", nil, 8, api.ErrForm)
		// In other letters, or longer, it is a name.
		for _, other := range []string{word + "x", word + "_", word + "0", "x" + word, strings.ToUpper(word), word + word} {
			checkAnswer(t, other+"="+other+";", []Def{{other, ref(other)}}, 0, api.OK)
			checkAnswer(t, "a=let "+other+"=b from 1 in b;", []Def{{"a", let(other, ref("b"), num(1), ref("b"))}}, 0, api.OK)
		}
	}
	// Chapter 8's own words are names of definitions, but of no var.
	for _, word := range strings.Fields("or and not true false null this len sum min max all any keys has count starts ends join") {
		checkAnswer(t, word+"="+word+";", []Def{{word, ref(word)}}, 0, api.OK)
		checkAnswer(t, "x = let "+word+" = a from 1 in b;", nil, 8, api.ErrForm)
	}
}

func TestLengths(t *testing.T) { // P13.1, R2 and P7
	for _, many := range []int{8190, 8191, 8192, 8193, 8194, 1 << 20} {
		for _, s := range []string{
			strings.Repeat(" ", many),
			strings.Repeat(" ", many-4) + "a=b;",
			"a=b;" + strings.Repeat(" ", many-4),
			"a=" + strings.Repeat("b", many-3) + ";",
			`a=just"` + strings.Repeat("b", many-9) + `";`,
			strings.Repeat("\xff", many), strings.Repeat("9", many),
		} {
			if many > 8192 {
				checkAnswer(t, s, nil, 0, api.ErrLong)
			}
			checkText(t, s)
		}
	}
	// As much as may be of what stands in one another, or one behind the other.
	for _, s := range []string{"[", "[a,", "{", `{"k":`, "pick(", "pick(2:", "list(", "where(", "map(neg,", "let x = ", "let x = a from 1 in ", "int(", "int((", "int(1,x[", "text(", "a=b;", "a=", "just ", "just -", "map(neg|", "map(plus -", "[[],", "(", "]", ";", "=", "a", "\"", "1", "-", ",", "let ", "in ", "from ", "pick(1,"} {
		for _, behind := range []string{"", "]", "}", ")", ",1,2)", " from 1 in a", ";", ",1)"} {
			for _, ahead := range []string{"", "a=", "a=just ", "a=int(", "a=pick(", "a=let x=a from "} {
				times := (8192 - len(ahead) - 1) / (len(s) + len(behind))
				checkText(t, ahead+strings.Repeat(s, times)+strings.Repeat(behind, times)+";")
				checkText(t, ahead+strings.Repeat(s, times)+"a"+strings.Repeat(behind, times))
			}
		}
	}
}

// each hands on all texts of at most so many pieces.
func each(many int, pieces []string, do func(s string)) {
	var lay func(s string, many int)
	lay = func(s string, many int) {
		do(s)
		if many == 0 {
			return
		}
		for _, piece := range pieces {
			lay(s+piece, many-1)
		}
	}
	lay("", many)
}

func TestShortTexts(t *testing.T) { // P13.1
	less := 0
	if testing.Short() {
		less = 1
	}
	for _, c := range []struct {
		many   int
		ahead  string
		pieces string
		behind string
	}{
		{5, "", "a = ; just 1 [ ] in", ""}, {7, "", "a = ;", ""},
		{3, "a=", `just int pick list text let from in where map a x 1 0 - "a" " ( ) [ ] { } , : = ; true null neg _`, ";"},
		{5, "a=", "[ ] , a just 1 { }", ";"}, {7, "a=", "[ ] , a", ";"}, {6, "a={", `"k" : , a }`, ";"},
		{6, "a=pick(", "a 1 2 0 : , )", ";"}, {5, "a=just", `- 0 1 " a 99999999999999999999 true`, ";"},
		{5, "a=list(", "a 1 , ) x [ ]", ";"}, {5, "a=int(", "1 , ) x + ( -", ";"}, {5, "a=where(", "a 1 , ) this == ;", ""}, {5, "a=text(", `"k" " 1 , ) a`, ";"},
		{5, "a=let", "x = a from 1 in b", ";"}, {4, "a=let x = a from", "in from x 1 . a [ ]", " in b;"}, {5, "a=map(", "neg | , a ) plus 2", ";"},
	} {
		// A piece may stand right behind another one, or behind a blank.
		for _, blank := range []string{" ", ""} {
			pieces := strings.Fields(c.pieces)
			many := c.many - less
			if blank == " " {
				for at := range pieces {
					pieces[at] = " " + pieces[at]
				}
			}
			each(many, pieces, func(s string) { checkText(t, c.ahead+s+c.behind) })
		}
	}
}

func TestEveryByte(t *testing.T) { // P13.1
	for _, s := range []string{
		` a_1 = pick ( 2 : just -10 , [ b , { "k\n" : or } ] ) ; or = int(-1,x*2);`,
		`a=list(text("ab",0,9),1,len(x));b=where(just"\u00e9",this!=null);`,
		`x=let y=map(plus 2|tag"k",[just true])from this.y in{"":y,"z":just null};`,
	} {
		checkText(t, s)
		if _, _, e := Parse(s); e != api.OK {
			t.Errorf("Parse(%q): %d", s, e)
		}
		for at := range len(s) {
			checkText(t, s[:at])
			checkText(t, s[at:])
			checkText(t, s[:at]+s[at+1:])
			for c := range 256 {
				one := string([]byte{byte(c)})
				checkText(t, s[:at]+one+s[at+1:])
				checkText(t, s[:at]+one+s[at:])
			}
		}
	}
}

// What terms are drawn of.
var (
	drawnNames = []string{"a", "b", "or", "len", "this", "x_1", "A9", "in_", "just1", "Map"}
	drawnVars  = []string{"x", "y", "x_1", "orx", "in_", "Let", "A"}
	drawnTexts = []string{"", "a", "k", "a b", "\n", "\"", "\\", "\u00e9", "\U0001F600", "\x00", "]", "1", "in", "\x7f", ";"}
	drawnInts  = []int64{0, 1, -1, 2, 7, -10, 1000, 1001, math.MaxInt64, math.MinInt64}
	drawnExprs = strings.Split(`0|1|x|this|-1|x + 1|this == x|in|from|this.in|x.from|x["in"]|len(x) * 2|not x|has(x, "k")|(x)|"a, b)"|x or y and z|null|join(x, "\n")|this[0].k`, "|")
	drawnIsos  = []iso.Iso{{Name: "neg"}, {Name: "rev"}, {Name: "box"}, {Name: "plus", N: 2}, {Name: "plus", N: math.MinInt64}, {Name: "times", N: -3}, {Name: "tag", Key: "k"}, {Name: "tag", Key: ", a)"}, {Name: "pairs"}}
)

func some[T any](random *rand.Rand, l []T) T { return l[random.Intn(len(l))] }

// drawn is a term of at most so many levels.
func drawn(random *rand.Rand, deep int) Term {
	kind := random.Intn(11)
	if deep == 1 {
		kind = []int{Just, Range, Text, Ref, Ref}[random.Intn(5)]
	}
	t := Term{Kind: kind}
	parts, exprs := 0, 0
	switch kind {
	case Just:
		t.Lit = []value.Value{{}, truth(true), truth(false), number(some(random, drawnInts)), str(some(random, drawnTexts))}[random.Intn(5)]
	case Range:
		exprs = 2
	case Pick:
		parts = 1 + random.Intn(3)
		for range parts {
			t.Weights = append(t.Weights, []int{1, 1, 0, 2, 10, math.MaxInt64}[random.Intn(6)])
		}
	case Tuple:
		parts = random.Intn(4)
	case Record:
		parts = random.Intn(4)
		for range parts {
			t.Keys = append(t.Keys, some(random, drawnTexts))
		}
	case List:
		parts, exprs = 1, 2
	case Text:
		t.Lit, exprs = str(some(random, drawnTexts)), 2
	case Ref:
		t.Name = some(random, drawnNames)
	case Bind:
		t.Name, parts, exprs = some(random, drawnVars), 2, 1
	case Where:
		parts, exprs = 1, 1
	case Map:
		parts = 1
		for range 1 + random.Intn(3) {
			t.Isos = append(t.Isos, some(random, drawnIsos))
		}
	}
	for range parts {
		t.Parts = append(t.Parts, drawn(random, deep-1))
	}
	for range exprs {
		x, _, _ := expr.Parse(some(random, drawnExprs))
		t.Exprs = append(t.Exprs, x)
	}
	return t
}

// drawnDefs are some definitions.
func drawnDefs(random *rand.Rand) []Def {
	var l []Def
	for range 1 + random.Intn(4) {
		l = append(l, Def{some(random, drawnNames), drawn(random, 1+random.Intn(4))})
	}
	return l
}

// pieces are those of a term, one of the many ways to write it.
func pieces(random *rand.Rand, t Term) []string {
	part := func(at int) []string { return pieces(random, t.Parts[at]) }
	x := func(at int) []string { return []string{expr.Print(t.Exprs[at])} }
	// parts are all of them, with what stands ahead of each.
	parts := func(ahead func(at int) []string) [][]string {
		var l [][]string
		for at := range t.Parts {
			l = append(l, slices.Concat(ahead(at), part(at)))
		}
		return l
	}
	switch t.Kind {
	case Just:
		if t.Lit.Kind == value.Str {
			return []string{"just", escaped(random, t.Lit.Str)}
		}
		return []string{"just", toldLit(t.Lit)}
	case Range:
		return row("int (", ")", x(0), x(1))
	case Pick:
		return row("pick (", ")", parts(func(at int) []string {
			if t.Weights[at] == 1 && random.Intn(2) == 0 {
				return nil
			}
			return []string{strconv.Itoa(t.Weights[at]), ":"}
		})...)
	case Tuple:
		return row("[", "]", parts(func(int) []string { return nil })...)
	case Record:
		return row("{", "}", parts(func(at int) []string { return []string{escaped(random, t.Keys[at]), ":"} })...)
	case List:
		return row("list (", ")", part(0), x(0), x(1))
	case Text:
		return row("text (", ")", []string{escaped(random, t.Lit.Str)}, x(0), x(1))
	case Bind:
		return slices.Concat([]string{"let", t.Name, "="}, part(0), []string{"from"}, x(0), []string{"in"}, part(1))
	case Where:
		return row("where (", ")", part(0), x(0))
	case Map:
		return row("map (", ")", []string{iso.Print(t.Isos)}, part(0))
	}
	return []string{t.Name}
}

// row are some things' pieces, with a comma between each two, and pieces around them.
func row(ahead, behind string, things ...[]string) []string {
	l := strings.Fields(ahead)
	for at, thing := range things {
		if at > 0 {
			l = append(l, ",")
		}
		l = append(l, thing...)
	}
	return append(l, behind)
}

// escaped is a text as a string, of which any point may stand by escapes.
func escaped(random *rand.Rand, s string) string {
	var b strings.Builder
	for _, r := range s {
		escape := fmt.Sprintf(`\u%04x`, r)
		if r > 0xFFFF {
			escape = fmt.Sprintf(`\u%04X\u%04x`, 0xD800+(r-0x10000)>>10, 0xDC00+(r-0x10000)&0x3FF)
		}
		if random.Intn(2) == 0 || r < ' ' || r == '"' || r == '\\' {
			b.WriteString(escape)
		} else {
			b.WriteRune(r)
		}
	}
	return `"` + b.String() + `"`
}

// written is definitions' text, however written.
func written(random *rand.Rand, l []Def) string {
	var all []string
	for _, d := range l {
		all = append(all, d.Name, "=")
		all = append(all, pieces(random, d.Term)...)
		all = append(all, ";")
	}
	goesOn := regexp.MustCompile(`[A-Za-z0-9_]$`)
	begins := regexp.MustCompile(`^[A-Za-z0-9_]`)
	var b strings.Builder
	for _, piece := range all {
		if random.Intn(3) == 0 || goesOn.MatchString(b.String()[max(b.Len()-1, 0):]) && begins.MatchString(piece) {
			b.WriteByte(" \t\n\r"[random.Intn(4)])
		}
		b.WriteString(piece)
	}
	return b.String() + []string{"", " ", "\n\t"}[random.Intn(3)]
}

func TestHoweverWritten(t *testing.T) { // P13.1 and P13.2
	random := rand.New(rand.NewSource(131313))
	for range 6000 {
		l := drawnDefs(random)
		checkDefs(t, l)
		s := written(random, l)
		if len(s) <= 8192 {
			checkAnswer(t, s, l, 0, api.OK)
		}
		checkText(t, s)
		x := l[0].Term
		checkTerm(t, x)
	}
}

func TestSpoiltTexts(t *testing.T) { // P13.1
	random := rand.New(rand.NewSource(13131313))
	spoilt := []string{"", " ", "a", "x", "just", "int", "pick", "list", "text", "let", "from", "in", "where", "map", "(", ")", "[", "]", "{", "}", ",", ":", "=", ";", `"`, `"k"`, "1", "0", "-", "_", "|", "neg", "true", "99999999999999999999", "\xff", `\`, strings.Repeat("[", 33), strings.Repeat("-", 33), "let x = ", " in ", "pick(", ".", "+"}
	for range 40000 {
		s := written(random, drawnDefs(random))
		for range 1 + random.Intn(2) {
			at := random.Intn(len(s) + 1)
			behind := min(at+random.Intn(3), len(s))
			s = s[:at] + some(random, spoilt) + s[behind:]
		}
		checkText(t, s)
	}
}

func TestErrorsLeaveNothing(t *testing.T) { // P8: R3, R4 and R8
	for range 3 {
		checkAnswer(t, "a = [b, @];", nil, 8, api.ErrForm)
		checkAnswer(t, "a = [b, c];", []Def{{"a", tuple(ref("b"), ref("c"))}}, 0, api.OK)
		checkAnswer(t, "a = "+strings.Repeat("[", 33)+strings.Repeat("]", 33)+";", nil, 0, api.ErrDeep)
		checkAnswer(t, "a = b;", []Def{{"a", ref("b")}}, 0, api.OK)
	}
}

func FuzzTexts(f *testing.F) {
	for s := range errors {
		f.Add("a = " + s + ";")
	}
	for _, s := range []string{"a = pick(2: just 1, [a]);", ` a_1 = pick ( 2 : just -10 , [ b , { "k\n" : or } ] ) ; or = int(-1,x*2);`, `a=list(text("ab",0,9),1,len(x));b=where(just"\u00e9",this!=null);`, `x=let y=map(plus 2|tag"k",[just true])from this.y in{"":y,"z":just null};`} {
		f.Add(s)
	}
	f.Fuzz(func(t *testing.T, s string) {
		checkText(t, s)
		if l, _, e := Parse(s); e == api.OK {
			checkDefs(t, l)
			for _, d := range l {
				checkTerm(t, d.Term)
			}
		}
	})
}
