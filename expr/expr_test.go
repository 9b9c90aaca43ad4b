package expr

import (
	"fmt"
	"math"
	"math/rand"
	"reflect"
	"regexp"
	"slices"
	"strconv"
	"strings"
	"testing"

	"cheval/api"
	"cheval/token"
	"cheval/value"
)

// The samples are written field by field, so that they don't hang on the calls of another package.

func null() Expr                      { return Expr{Op: "lit", Lit: value.Value{Kind: value.Null}} }
func truth(b bool) Expr               { return Expr{Op: "lit", Lit: value.Value{Kind: value.Bool, Bool: b}} }
func number(n int64) Expr             { return Expr{Op: "lit", Lit: value.Value{Kind: value.Int, Int: n}} }
func text(s string) Expr              { return Expr{Op: "lit", Lit: value.Value{Kind: value.Str, Str: s}} }
func this() Expr                      { return Expr{Op: "this"} }
func name(s string) Expr              { return Expr{Op: "var", Name: s} }
func get(e Expr, key string) Expr     { return Expr{Op: "get", Name: key, Args: []Expr{e}} }
func op(op string, args ...Expr) Expr { return Expr{Op: op, Args: args} }

// alike: are all fields the same? Of a list it doesn't matter whether it is nil or empty.
func alike(a, b Expr) bool {
	return a.Op == b.Op && a.Name == b.Name && reflect.DeepEqual(a.Lit, b.Lit) && slices.EqualFunc(a.Args, b.Args, alike)
}

// Each call's name, and how many expressions it has.
var calls = map[string]int{"len": 1, "sum": 1, "min": 1, "max": 1, "all": 1, "any": 1, "keys": 1, "has": 2, "count": 2, "starts": 2, "ends": 2, "join": 2}

var words = []string{"or", "and", "not", "true", "false", "null", "this"}

// How tight each sign between two holds them.
var tight = map[string]int{"or": 1, "and": 2, "not": 3, "==": 4, "!=": 4, "<": 4, "<=": 4, ">": 4, ">=": 4, "+": 5, "-": 5, "*": 6, "/": 6, "%": 6, "neg": 7}

// The pieces of a text.
var (
	wordPiece  = regexp.MustCompile(`^[A-Za-z][A-Za-z0-9_]*`)
	intPiece   = regexp.MustCompile(`^[0-9]+`)
	wordGoesOn = regexp.MustCompile(`^[A-Za-z_]`)
	signPiece  = regexp.MustCompile(`^(==|!=|<=|>=|[-<>+*/%.,()[\]])`)
	blankPiece = regexp.MustCompile(`^[ \t\n\r]*`)
)

// machine reads a text without a call in itself: with signs that wait, and trees that wait for them.
type machine struct {
	s     string
	place int      // behind what is read
	signs []string // that wait: "(", "[" and calls' names stand for what is open
	many  []int    // of each call that is open the expressions that are whole
	trees []Expr
}

// told is what the words of the chapter tell of what begins at a place; of all of the text, if it must be one.
func told(s string, at int, all bool) (Expr, int, api.Errno) {
	m := &machine{s: s, place: at}
	for {
		place, e := m.operand()
		if e != api.OK {
			return Expr{}, place, e
		}
		more, place, e := m.operator()
		if e != api.OK {
			return Expr{}, place, e
		}
		if more {
			continue
		}
		if begin := m.begin(); all && begin < len(s) {
			return Expr{}, begin, api.ErrForm
		}
		m.reduce(0)
		if depthOf(m.trees[0]) > 32 {
			return Expr{}, at, api.ErrDeep
		}
		if all {
			return m.trees[0], 0, api.OK
		}
		return m.trees[0], m.place, api.OK
	}
}

func (m *machine) begin() int { return m.place + len(blankPiece.FindString(m.s[m.place:])) }

func (m *machine) top() string {
	if len(m.signs) == 0 {
		return ""
	}
	return m.signs[len(m.signs)-1]
}

// reduce puts together what the signs that wait hold so tight, or tighter.
func (m *machine) reduce(least int) {
	for tight[m.top()] >= max(least, 1) {
		sign, args := m.top(), 2
		if sign == "not" || sign == "neg" {
			args = 1
		}
		m.signs = m.signs[:len(m.signs)-1]
		m.apply(sign, args)
	}
}

func (m *machine) apply(sign string, args int) {
	from := len(m.trees) - args
	m.trees = append(m.trees[:from], op(sign, slices.Clone(m.trees[from:])...))
}

// string is the text of a string, if one stands there.
func (m *machine) string(at int) (string, int, int, api.Errno) {
	t, place, e := token.New(m.s[at:]).Next()
	if e != api.OK {
		return "", 0, at + place, e
	}
	return t.Text, at + t.End, 0, api.OK
}

// operand reads all up to where a sign that stands between two might be.
func (m *machine) operand() (int, api.Errno) {
	for {
		at := m.begin()
		rest := m.s[at:]
		word := wordPiece.FindString(rest)
		behind := at + len(word)
		switch {
		case word == "not" && (tight[m.top()] <= 3):
			m.signs = append(m.signs, "not")
		case word == "true" || word == "false":
			m.trees = append(m.trees, truth(word == "true"))
			m.place = behind
			return 0, api.OK
		case word == "null":
			m.trees = append(m.trees, null())
			m.place = behind
			return 0, api.OK
		case word == "this":
			m.trees = append(m.trees, this())
			m.place = behind
			return 0, api.OK
		case calls[word] > 0:
			m.place = behind
			behind = m.begin()
			if !strings.HasPrefix(m.s[behind:], "(") {
				return behind, api.ErrForm
			}
			behind++
			m.signs, m.many = append(m.signs, word), append(m.many, 0)
		case word != "" && !slices.Contains(words, word):
			m.trees = append(m.trees, name(word))
			m.place = behind
			return 0, api.OK
		case strings.HasPrefix(rest, "-"):
			m.signs = append(m.signs, "neg")
			behind = at + 1
		case strings.HasPrefix(rest, "("):
			m.signs = append(m.signs, "(")
			behind = at + 1
		case strings.HasPrefix(rest, `"`):
			s, behind, place, e := m.string(at)
			m.trees = append(m.trees, text(s))
			m.place = behind
			return place, e
		case intPiece.MatchString(rest):
			return m.int(at, intPiece.FindString(rest))
		default:
			return at, api.ErrForm
		}
		m.place = behind
	}
}

func (m *machine) int(at int, digits string) (int, api.Errno) {
	if len(digits) > 1 && digits[0] == '0' {
		return at + 1, api.ErrForm
	}
	n, err := strconv.ParseInt(digits, 10, 64)
	if err != nil {
		return at, api.ErrNumber
	}
	m.place = at + len(digits)
	if wordGoesOn.MatchString(m.s[m.place:]) {
		return m.place, api.ErrForm
	}
	m.trees = append(m.trees, number(n))
	return 0, api.OK
}

// operator reads all up to where the next operand must be: true; or up to the end: false.
func (m *machine) operator() (bool, int, api.Errno) {
	for {
		at := m.begin()
		rest := m.s[at:]
		sign := signPiece.FindString(rest)
		if word := wordPiece.FindString(rest); word == "or" || word == "and" {
			sign = word
		}
		behind := at + len(sign)
		open := slices.IndexFunc(m.signs, func(s string) bool { return s == "(" || s == "[" || calls[s] > 0 }) >= 0
		switch {
		case sign == ".":
			m.place = behind
			if place, e := m.key(); e != api.OK {
				return false, place, e
			}
			continue
		case sign == "[":
			m.place, m.signs = behind, append(m.signs, "[")
			return true, 0, api.OK
		case tight[sign] == 4:
			m.reduce(5)
			if tight[m.top()] != 4 {
				m.place, m.signs = behind, append(m.signs, sign)
				return true, 0, api.OK
			}
		case tight[sign] > 0:
			m.reduce(tight[sign])
			m.place, m.signs = behind, append(m.signs, sign)
			return true, 0, api.OK
		}
		if !open {
			return false, 0, api.OK
		}
		m.reduce(0)
		begun := m.top()
		want := calls[begun]
		switch {
		case begun == "(" && sign == ")":
			m.signs = m.signs[:len(m.signs)-1]
		case begun == "[" && sign == "]":
			m.signs = m.signs[:len(m.signs)-1]
			m.apply("at", 2)
		case want > 0 && sign == ")":
			if m.many[len(m.many)-1]+1 < want {
				return false, at, api.ErrNone
			}
			m.signs, m.many = m.signs[:len(m.signs)-1], m.many[:len(m.many)-1]
			m.apply(begun, want)
		case want > 0 && sign == ",":
			m.many[len(m.many)-1]++
			if m.many[len(m.many)-1] == want {
				return false, at, api.ErrNone
			}
			m.place = behind
			return true, 0, api.OK
		default:
			return false, at, api.ErrForm
		}
		m.place = behind
	}
}

func (m *machine) key() (int, api.Errno) {
	at := m.begin()
	last := len(m.trees) - 1
	if strings.HasPrefix(m.s[at:], `"`) {
		key, behind, place, e := m.string(at)
		if e != api.OK {
			return place, e
		}
		m.trees[last], m.place = get(m.trees[last], key), behind
		return 0, api.OK
	}
	word := wordPiece.FindString(m.s[at:])
	if word == "" {
		return at, api.ErrForm
	}
	m.trees[last], m.place = get(m.trees[last], word), at+len(word)
	return 0, api.OK
}

// depthOf is a tree's depth, counted level by level.
func depthOf(e Expr) int {
	deep := 0
	for level := []Expr{e}; len(level) > 0; deep++ {
		var below []Expr
		for _, one := range level {
			below = append(below, one.Args...)
		}
		level = below
	}
	return deep
}

// toldText is a tree's text, by the words.
func toldText(e Expr) string {
	var args []string
	for _, arg := range e.Args {
		args = append(args, toldText(arg))
	}
	switch e.Op {
	case "lit":
		switch e.Lit.Kind {
		case value.Null:
			return "null"
		case value.Bool:
			return strconv.FormatBool(e.Lit.Bool)
		case value.Int:
			return strconv.FormatInt(e.Lit.Int, 10)
		}
		return quoted(e.Lit.Str)
	case "this":
		return "this"
	case "var":
		return e.Name
	case "get":
		return args[0] + "." + quoted(e.Name)
	case "at":
		return fmt.Sprintf("%s[%s]", args[0], args[1])
	case "not":
		return fmt.Sprintf("(not %s)", args[0])
	case "neg":
		return fmt.Sprintf("(-%s)", args[0])
	}
	if calls[e.Op] > 0 {
		return fmt.Sprintf("%s(%s)", e.Op, strings.Join(args, ", "))
	}
	return fmt.Sprintf("(%s %s %s)", args[0], e.Op, args[1])
}

func quoted(s string) string {
	b := `"`
	for _, r := range s {
		switch at := strings.IndexRune("\"\\\b\f\n\r\t", r); {
		case at >= 0:
			b += `\` + string(`"\bfnrt`[at])
		case r < ' ':
			b += fmt.Sprintf(`\u%04x`, r)
		default:
			b += string(r)
		}
	}
	return b + `"`
}

// toldNames are the names of vars.
func toldNames(e Expr) []string {
	set := map[string]bool{}
	var walk func(e Expr)
	walk = func(e Expr) {
		if e.Op == "var" {
			set[e.Name] = true
		}
		for _, arg := range e.Args {
			walk(arg)
		}
	}
	walk(e)
	l := []string{}
	for s := range set {
		l = append(l, s)
	}
	slices.Sort(l)
	return l
}

// isTree: is it one that Parse may answer?
func isTree(e Expr) bool {
	many, named, unused := 2, false, e.Lit.Kind == value.Null
	switch {
	case e.Op == "lit":
		many, unused = 0, e.Lit.Good() && e.Lit.Kind <= value.Str && e.Lit.Int >= 0
	case e.Op == "this":
		many = 0
	case e.Op == "var":
		many, named = 0, wordPiece.FindString(e.Name) == e.Name && calls[e.Name] == 0 && !slices.Contains(words, e.Name)
	case e.Op == "get":
		many, named = 1, value.Text(e.Name).Good()
	case e.Op == "neg" || e.Op == "not":
		many = 1
	case calls[e.Op] > 0:
		many = calls[e.Op]
	case e.Op != "at" && tight[e.Op] == 0:
		return false
	}
	return len(e.Args) == many && (named || e.Name == "") && unused && !slices.ContainsFunc(e.Args, func(arg Expr) bool { return !isTree(arg) })
}

// checkAnswer: is it the tree, or the error, that was told?
func checkAnswer(t *testing.T, got Expr, place int, e api.Errno, want Expr, wantPlace int, wantE api.Errno, call string, with ...any) {
	t.Helper()
	if !alike(got, want) || place != wantPlace || e != wantE {
		t.Errorf(call+": %+v, %d, %d; want %+v, %d, %d", append(with, got, place, e, want, wantPlace, wantE)...)
	}
	if e == api.OK && (!isTree(got) || depthOf(got) > 32) {
		t.Errorf(call+": %+v is no tree", append(with, got)...)
	}
}

// checkText: is a text parsed as the words tell, all of it, and what begins at its places?
func checkText(t *testing.T, s string, places ...int) {
	t.Helper()
	got, place, e := Parse(s)
	want, wantPlace, wantE := Expr{}, 0, api.ErrLong
	if len(s) <= 2048 {
		want, wantPlace, wantE = told(s, 0, true)
	}
	checkAnswer(t, got, place, e, want, wantPlace, wantE, "Parse(%.300q)", s)
	for _, at := range places {
		got, place, e := Prefix(s, at)
		want, wantPlace, wantE := Expr{}, 0, api.ErrRange
		if 0 <= at && at <= len(s) {
			want, wantPlace, wantE = told(s, at, false)
		}
		checkAnswer(t, got, place, e, want, wantPlace, wantE, "Prefix(%.300q, %d)", s, at)
	}
}

// checkTree: do all calls agree with the words on a tree?
func checkTree(t *testing.T, e Expr) {
	t.Helper()
	s := Print(e)
	if want := toldText(e); s != want {
		t.Errorf("Print(%+v): %q; want %q", e, s, want)
	}
	if len(s) <= 2048 {
		got, place, errno := Parse(s)
		checkAnswer(t, got, place, errno, e, 0, api.OK, "Parse(%.300q)", s)
	}
	got, place, errno := Prefix(s, 0)
	checkAnswer(t, got, place, errno, e, len(s), api.OK, "Prefix(%.300q, 0)", s)
	if !Same(e, got) || !Same(got, e) {
		t.Errorf("Same of %q and itself: false", s)
	}
	if e.Depth() != depthOf(e) {
		t.Errorf("Depth of %q: %d; want %d", s, e.Depth(), depthOf(e))
	}
	if l := Names(e); !slices.Equal(l, toldNames(e)) {
		t.Errorf("Names of %q: %q; want %q", s, l, toldNames(e))
	}
}

func TestTrees(t *testing.T) { // P8.1
	one, two, x, y, z := number(1), number(2), name("x"), name("y"), name("z")
	for s, want := range map[string]Expr{
		"1 + 2 * x": op("+", one, op("*", two, x)),
		// What stands alone.
		"null": null(), "true": truth(true), "false": truth(false), "this": this(), "0": number(0), "1": one, "10": number(10), "9223372036854775807": number(math.MaxInt64),
		`""`: text(""), `"a"`: text("a"), `"\u0061\n\/\ud83d\ude00"`: text("a\n/\U0001F600"), "\"\x7f\u00e9\"": text("\x7f\u00e9"), `"x + 1"`: text("x + 1"),
		"x": x, "X": name("X"), "x_": name("x_"), "x0_9Z": name("x0_9Z"), "a__": name("a__"),
		// What begins with a word, or is one in other letters, is a name.
		"orx": name("orx"), "or_": name("or_"), "and1": name("and1"), "nota": name("nota"), "true1": name("true1"), "falsey": name("falsey"), "nulls": name("nulls"), "this_": name("this_"), "lens": name("lens"), "has2": name("has2"), "Or": name("Or"), "NOT": name("NOT"), "True": name("True"), "This": name("This"), "Len": name("Len"), "int": name("int"), "just": name("just"), "in": name("in"), "from": name("from"), "neg": name("neg"), "lit": name("lit"), "var": name("var"), "get": name("get"), "at": name("at"),
		// What is taken out of something.
		"x.y": get(x, "y"), "x.y.z": get(get(x, "y"), "z"), `x."y"`: get(x, "y"), `x."\u0079"`: get(x, "y"), `x."a b"`: get(x, "a b"), `x.""`: get(x, ""), "x.or": get(x, "or"), "x.and.not": get(get(x, "and"), "not"), "x.true": get(x, "true"), "x.this": get(x, "this"), "x.null.false": get(get(x, "null"), "false"), "x.len": get(x, "len"), "x.join.has": get(get(x, "join"), "has"), "this.this": get(this(), "this"),
		"x[1]": op("at", x, one), "x[1][2]": op("at", op("at", x, one), two), "x[y[z]]": op("at", x, op("at", y, z)), "x.y[1].z": get(op("at", get(x, "y"), one), "z"), "x[1 or 2]": op("at", x, op("or", one, two)), "x[not y]": op("at", x, op("not", y)), "x[-1]": op("at", x, op("neg", one)), "x[1 < 2]": op("at", x, op("<", one, two)),
		"1.a": get(one, "a"), "0.a": get(number(0), "a"), "1.e5": get(one, "e5"), `"a".b`: get(text("a"), "b"), `"a"[0]`: op("at", text("a"), number(0)), "null.x": get(null(), "x"), "true[1]": op("at", truth(true), one), "(x).y": get(x, "y"), "(x + y).z": get(op("+", x, y), "z"), "(x)[1]": op("at", x, one), "len(x).y": get(op("len", x), "y"), "len(x)[y]": op("at", op("len", x), y),
		// What stands ahead of something.
		"-1": op("neg", one), "-x": op("neg", x), "--x": op("neg", op("neg", x)), "- - -x": op("neg", op("neg", op("neg", x))), "-x.y": op("neg", get(x, "y")), "-x[1]": op("neg", op("at", x, one)), "-(x)": op("neg", x), "(-x).y": get(op("neg", x), "y"), "-len(x)": op("neg", op("len", x)), "-9223372036854775807": op("neg", number(math.MaxInt64)), "-0": op("neg", number(0)), `-"a"`: op("neg", text("a")), "-true": op("neg", truth(true)),
		"not x": op("not", x), "not not x": op("not", op("not", x)), "not(x)": op("not", x), `not"a"`: op("not", text("a")), "not-x": op("not", op("neg", x)), "not x.y": op("not", get(x, "y")), "not x == y": op("not", op("==", x, y)), "not x + y < z": op("not", op("<", op("+", x, y), z)), "not not x == y": op("not", op("not", op("==", x, y))), "(not x) == y": op("==", op("not", x), y), "x == (not y)": op("==", x, op("not", y)), "-(not x)": op("neg", op("not", x)),
		// What stands between two.
		"x or y": op("or", x, y), "x and y": op("and", x, y), "x==y": op("==", x, y), "x!=y": op("!=", x, y), "x<y": op("<", x, y), "x<=y": op("<=", x, y), "x>y": op(">", x, y), "x>=y": op(">=", x, y), "x+y": op("+", x, y), "x-y": op("-", x, y), "x*y": op("*", x, y), "x/y": op("/", x, y), "x%y": op("%", x, y),
		// What holds tighter.
		"x or y and z": op("or", x, op("and", y, z)), "x and y or z": op("or", op("and", x, y), z), "(x or y) and z": op("and", op("or", x, y), z), "not x and y": op("and", op("not", x), y), "not x or not y": op("or", op("not", x), op("not", y)), "x and not y": op("and", x, op("not", y)), "x < y and y < z": op("and", op("<", x, y), op("<", y, z)), "x == y or z": op("or", op("==", x, y), z), "x + y == z": op("==", op("+", x, y), z), "x == y - z": op("==", x, op("-", y, z)), "x * y + z": op("+", op("*", x, y), z), "x + y * z": op("+", x, op("*", y, z)), "(x + y) * z": op("*", op("+", x, y), z), "-x * y": op("*", op("neg", x), y), "x * -y": op("*", x, op("neg", y)), "-x + -y": op("+", op("neg", x), op("neg", y)), "x - -y": op("-", x, op("neg", y)), "x--y": op("-", x, op("neg", y)), "x<-y": op("<", x, op("neg", y)), "x % y / z": op("/", op("%", x, y), z),
		// From the left.
		"x or y or z": op("or", op("or", x, y), z), "x and y and z": op("and", op("and", x, y), z), "x - y - z": op("-", op("-", x, y), z), "x + y - z": op("-", op("+", x, y), z), "x - y + z": op("+", op("-", x, y), z), "x / y / z": op("/", op("/", x, y), z), "x * y % z": op("%", op("*", x, y), z), "x - (y - z)": op("-", x, op("-", y, z)), "x or (y or z)": op("or", x, op("or", y, z)), "(x < y) < z": op("<", op("<", x, y), z), "x < (y < z)": op("<", x, op("<", y, z)), "1 - 2 * 1 - 2": op("-", op("-", one, op("*", two, one)), two),
		// Calls.
		"len(x)": op("len", x), "sum(x)": op("sum", x), "min(x)": op("min", x), "max(x)": op("max", x), "all(x)": op("all", x), "any(x)": op("any", x), "keys(x)": op("keys", x), "has(x,y)": op("has", x, y), "count(x, y)": op("count", x, y), "starts(x,y)": op("starts", x, y), "ends(x , y)": op("ends", x, y), "join(x,\ty)": op("join", x, y),
		"len(x or y)": op("len", op("or", x, y)), "has(not x, y < z)": op("has", op("not", x), op("<", y, z)), "len(len(x))": op("len", op("len", x)), "has(has(x, y), z)": op("has", op("has", x, y), z), "has(x, has(y, z))": op("has", x, op("has", y, z)), "len((x))": op("len", x), "sum(this) * len(this)": op("*", op("sum", this()), op("len", this())),
		// Parentheses leave nothing.
		"((x))": x, "(((1)))": one, "(x) + (y)": op("+", x, y), "(null)": null(), strings.Repeat("(", 1023) + "xy" + strings.Repeat(")", 1023): name("xy"),
		// Blanks.
		" x ": x, "\t\n\r 1\r\n\t ": one, " \"a\" ": text("a"), "x . y": get(x, "y"), "x\n.\r\"y\"": get(x, "y"), "x [ 1 ]": op("at", x, one), "len ( x )": op("len", x), " ( x ) ": x, "- x": op("neg", x), "not\nx": op("not", x), "x\tor\ty": op("or", x, y), "\"a\"or\"b\"": op("or", text("a"), text("b")), "(x)or(y)": op("or", x, y), "(x)and not(y)": op("and", x, op("not", y)), "x or\"b\"": op("or", x, text("b")), "x or-1": op("or", x, op("neg", one)), "this.or or this.and": op("or", get(this(), "or"), get(this(), "and")), "1 or 2": op("or", one, two),
		strings.Repeat(" ", 2047) + "x": x, "1" + strings.Repeat("\n", 2047): one, "x" + strings.Repeat("y", 2047): name("x" + strings.Repeat("y", 2047)), `"` + strings.Repeat("a", 2046) + `"`: text(strings.Repeat("a", 2046)),
	} {
		got, place, e := Parse(s)
		checkAnswer(t, got, place, e, want, 0, api.OK, "Parse(%.300q)", s)
		got, place, e = Prefix("@"+s+" @", 1)
		checkAnswer(t, got, place, e, want, 1+len(strings.TrimRight(s, " \t\n\r")), api.OK, "Prefix(%.300q, 1)", s)
		checkText(t, s, 0)
		checkTree(t, want)
	}
}

func TestErrors(t *testing.T) { // P8.1
	for s, x := range map[string]struct {
		place int
		e     api.Errno
	}{
		// Nothing stands where something must.
		"": {0, api.ErrForm}, " \t\n\r": {4, api.ErrForm}, "x +": {3, api.ErrForm}, "x + ": {4, api.ErrForm}, "-": {1, api.ErrForm}, "not": {3, api.ErrForm}, "not ": {4, api.ErrForm}, "x or": {4, api.ErrForm}, "x and \n": {7, api.ErrForm}, "x ==": {4, api.ErrForm}, "x <": {3, api.ErrForm}, "(": {1, api.ErrForm}, "( ": {2, api.ErrForm}, "(x": {2, api.ErrForm}, "(x ": {3, api.ErrForm}, "x[": {2, api.ErrForm}, "x[1": {3, api.ErrForm}, "x[ 1 ": {5, api.ErrForm}, "x.": {2, api.ErrForm}, "x. ": {3, api.ErrForm}, "len": {3, api.ErrForm}, "len ": {4, api.ErrForm}, "len(": {4, api.ErrForm}, "len(x": {5, api.ErrForm}, "has(x": {5, api.ErrForm}, "has(x,": {6, api.ErrForm}, "has(x,y": {7, api.ErrForm}, "((x)": {4, api.ErrForm},
		// Something else stands there.
		"or": {0, api.ErrForm}, "and x": {0, api.ErrForm}, " or": {1, api.ErrForm}, ")": {0, api.ErrForm}, "]": {0, api.ErrForm}, ",": {0, api.ErrForm}, ".": {0, api.ErrForm}, "[": {0, api.ErrForm}, "+1": {0, api.ErrForm}, "*": {0, api.ErrForm}, "==": {0, api.ErrForm}, "<": {0, api.ErrForm}, "_": {0, api.ErrForm}, "_x": {0, api.ErrForm}, "@": {0, api.ErrForm}, "\u00e9": {0, api.ErrForm}, "\xff": {0, api.ErrForm}, "\x00": {0, api.ErrForm}, "\u00a0x": {0, api.ErrForm}, "\ufeffx": {0, api.ErrForm}, "\vx": {0, api.ErrForm}, "{}": {0, api.ErrForm}, "[1]": {0, api.ErrForm}, "'a'": {0, api.ErrForm}, ".5": {0, api.ErrForm}, "!x": {0, api.ErrForm}, "()": {1, api.ErrForm}, "( )": {2, api.ErrForm}, "x[]": {2, api.ErrForm}, "x[ ]": {3, api.ErrForm}, "x + * y": {4, api.ErrForm}, "x or or y": {5, api.ErrForm}, "x or and y": {5, api.ErrForm}, "x +)": {3, api.ErrForm}, "x = y": {2, api.ErrForm}, "x =": {2, api.ErrForm}, "x ! y": {2, api.ErrForm}, "x !": {2, api.ErrForm}, "x =! y": {2, api.ErrForm}, "x & y": {2, api.ErrForm}, "x -> y": {3, api.ErrForm}, "- + x": {2, api.ErrForm}, "this.or.": {8, api.ErrForm}, "this.or or.x": {10, api.ErrForm},
		// Signs are the longest.
		"x < = y": {4, api.ErrForm}, "x <== y": {4, api.ErrForm}, "x === y": {4, api.ErrForm}, "x = = y": {2, api.ErrForm}, "x ! = y": {2, api.ErrForm}, "x >== y": {4, api.ErrForm}, "x <> y": {3, api.ErrForm}, "x => y": {2, api.ErrForm}, "x << y": {3, api.ErrForm}, "x !== y": {4, api.ErrForm}, "x <=": {4, api.ErrForm}, "x ==- ": {6, api.ErrForm},
		// The text goes on.
		"x y": {2, api.ErrForm}, "1 2": {2, api.ErrForm}, "x 1": {2, api.ErrForm}, `x "a"`: {2, api.ErrForm}, `"a""b"`: {3, api.ErrForm}, `"a"b`: {3, api.ErrForm}, "x)": {1, api.ErrForm}, "x]": {1, api.ErrForm}, "x,y": {1, api.ErrForm}, "(x))": {3, api.ErrForm}, "x(": {1, api.ErrForm}, "x(1)": {1, api.ErrForm}, "lens(x)": {4, api.ErrForm}, "true false": {5, api.ErrForm}, "null(x)": {4, api.ErrForm}, "this this": {5, api.ErrForm}, "x not y": {2, api.ErrForm}, "x;": {1, api.ErrForm}, "x \xff": {2, api.ErrForm}, "x\x00": {1, api.ErrForm}, "this\u00e9": {4, api.ErrForm}, "x\u00e9": {1, api.ErrForm}, "x == y == z": {7, api.ErrForm}, "x < y < z": {6, api.ErrForm}, "x < y == z": {6, api.ErrForm}, "not x < y > z": {10, api.ErrForm}, "x or y < z != 1": {11, api.ErrForm}, "len(x)(y)": {6, api.ErrForm}, "x.y(z)": {3, api.ErrForm}, "this.len(x)": {8, api.ErrForm}, "x true": {2, api.ErrForm}, "x this": {2, api.ErrForm}, "x len(y)": {2, api.ErrForm}, "x == y z": {7, api.ErrForm},
		// A word isn't followed by what goes on with it.
		"x orx": {2, api.ErrForm}, "x or2": {2, api.ErrForm}, "x or_y": {2, api.ErrForm}, "x orr y": {2, api.ErrForm}, "x Or y": {2, api.ErrForm}, "x andy": {2, api.ErrForm}, "xor y": {4, api.ErrForm}, "x or y andz": {7, api.ErrForm}, "notx y": {5, api.ErrForm}, "len2(x)": {4, api.ErrForm}, "truex": {-1, api.OK},
		// not stands nowhere else.
		"x + not y": {4, api.ErrForm}, "x == not y": {5, api.ErrForm}, "- not x": {2, api.ErrForm}, "x * not y": {4, api.ErrForm}, "not x + not y": {8, api.ErrForm}, "not - not x": {6, api.ErrForm}, "not.x": {3, api.ErrForm}, "not or x": {4, api.ErrForm}, "x or not": {8, api.ErrForm},
		// Keys.
		"x.1": {2, api.ErrForm}, "x._": {2, api.ErrForm}, "x._y": {2, api.ErrForm}, "x.(y)": {2, api.ErrForm}, "x.-y": {2, api.ErrForm}, "x..y": {2, api.ErrForm}, "x.[1]": {2, api.ErrForm}, "x. 1": {3, api.ErrForm}, "x.\u00e9": {2, api.ErrForm}, "1.5": {2, api.ErrForm}, "1. 5": {3, api.ErrForm}, "x.y z": {4, api.ErrForm}, `x."y" z`: {6, api.ErrForm}, "x.y\u00e9": {3, api.ErrForm}, "x.@": {2, api.ErrForm}, "x.)": {2, api.ErrForm},
		// Brackets and parentheses.
		"x[1,2]": {3, api.ErrForm}, "x[1)": {3, api.ErrForm}, "(x]": {2, api.ErrForm}, "(x,y)": {2, api.ErrForm}, "(x y)": {3, api.ErrForm}, "x[1 2]": {4, api.ErrForm}, "x[y][": {5, api.ErrForm}, "x[[1]]": {2, api.ErrForm}, "(x == y == z)": {8, api.ErrForm}, "x[y < z < 1]": {8, api.ErrForm}, "(x or)": {5, api.ErrForm}, "x[1]]": {4, api.ErrForm}, "(x = y)": {3, api.ErrForm},
		// Ints.
		"01": {1, api.ErrForm}, "00": {1, api.ErrForm}, "007": {1, api.ErrForm}, "x + 01": {5, api.ErrForm}, "0x1": {1, api.ErrForm}, "0_": {1, api.ErrForm}, "1x": {1, api.ErrForm}, "1_0": {1, api.ErrForm}, "12ab": {2, api.ErrForm}, "1e5": {1, api.ErrForm}, "1or 2": {1, api.ErrForm}, "1 or2": {2, api.ErrForm}, "1or2": {1, api.ErrForm}, "x[1y]": {3, api.ErrForm}, "0 1": {2, api.ErrForm}, "1\u00e9": {1, api.ErrForm},
		"9223372036854775808": {0, api.ErrNumber}, "-9223372036854775808": {1, api.ErrNumber}, "x < 9223372036854775808": {4, api.ErrNumber}, "99999999999999999999x": {0, api.ErrNumber}, "9223372036854775808_": {0, api.ErrNumber}, "99999999999999999999 @": {0, api.ErrNumber}, "09223372036854775808": {1, api.ErrForm}, "099999999999999999999x": {1, api.ErrForm}, "01x": {1, api.ErrForm}, "9223372036854775807x": {19, api.ErrForm}, "x[18446744073709551617]": {2, api.ErrNumber}, "  10000000000000000000000": {2, api.ErrNumber}, strings.Repeat("9", 2048): {0, api.ErrNumber},
		// Strings.
		`"`: {1, api.ErrForm}, `"a`: {2, api.ErrForm}, `x + "a`: {6, api.ErrForm}, `"\x"`: {2, api.ErrForm}, "\"a\n\"": {2, api.ErrForm}, `"\u12"`: {5, api.ErrForm}, "\"\xff\"": {1, api.ErrUTF}, "x == \"\xff\"": {6, api.ErrUTF}, `"\ud800"`: {1, api.ErrLone}, ` "a\udc00"`: {3, api.ErrLone}, `x."`: {3, api.ErrForm}, `x."\q"`: {4, api.ErrForm}, "x.\"y\xff\"": {4, api.ErrUTF}, `x. "\ud83d\n"`: {4, api.ErrLone}, `len("a)`: {7, api.ErrForm}, `x["\ud800"]`: {3, api.ErrLone}, "\"\xed\xa0\x80\"": {1, api.ErrUTF},
		// Calls.
		"len x": {4, api.ErrForm}, "len.x": {3, api.ErrForm}, "len + 1": {4, api.ErrForm}, "len[1]": {3, api.ErrForm}, "len()": {4, api.ErrForm}, "len( )": {5, api.ErrForm}, "has()": {4, api.ErrForm}, "len(,)": {4, api.ErrForm}, "has(,x)": {4, api.ErrForm}, "has(x,)": {6, api.ErrForm}, "has(x, )": {7, api.ErrForm}, "has(x,,y)": {6, api.ErrForm}, "has(x y)": {6, api.ErrForm}, "has(x;y)": {5, api.ErrForm}, "has(x]": {5, api.ErrForm}, "len(x y)": {6, api.ErrForm}, "len(x]": {5, api.ErrForm}, "has(x, y z)": {9, api.ErrForm}, "len(1 < 2 < 3)": {10, api.ErrForm}, "len(not)": {7, api.ErrForm},
		"len(x,y)": {5, api.ErrNone}, "len(x , y)": {6, api.ErrNone}, "len(x,)": {5, api.ErrNone}, "len(x,": {5, api.ErrNone}, "len(x,@": {5, api.ErrNone}, "has(x)": {5, api.ErrNone}, "has(x )": {6, api.ErrNone}, "has(x)@": {5, api.ErrNone}, "has(x,y,z)": {7, api.ErrNone}, "has(x, y ,": {9, api.ErrNone}, "count(1)": {7, api.ErrNone}, "starts(1)": {8, api.ErrNone}, "ends(1)": {6, api.ErrNone}, "join(1)": {6, api.ErrNone}, "sum(1,2)": {5, api.ErrNone}, "min(1,2)": {5, api.ErrNone}, "max(1,2)": {5, api.ErrNone}, "all(1,2)": {5, api.ErrNone}, "any(1,2)": {5, api.ErrNone}, "keys(1,2)": {6, api.ErrNone}, "count(1,2,3)": {9, api.ErrNone}, "starts(1,2,3)": {10, api.ErrNone}, "ends(1,2,3)": {8, api.ErrNone}, "join(1,2,3)": {8, api.ErrNone}, "has(has(x), y)": {9, api.ErrNone}, "len(has(x, y), z)": {13, api.ErrNone}, "(has(x))": {6, api.ErrNone}, "x[len(y, z)]": {7, api.ErrNone}, "len(x, y) @": {5, api.ErrNone}, "has(len(x), len(y, z))": {17, api.ErrNone},
		// What is too deep is told only where nothing else is wrong.
		strings.Repeat("-", 32) + "x @": {34, api.ErrForm}, strings.Repeat("-", 32): {32, api.ErrForm}, strings.Repeat("-", 32) + "01": {33, api.ErrForm}, strings.Repeat("-", 40) + "9223372036854775808": {40, api.ErrNumber}, strings.Repeat("-", 40) + "has(1)": {45, api.ErrNone}, strings.Repeat("-", 40) + "\"\xff\"": {41, api.ErrUTF}, strings.Repeat("x[", 40): {80, api.ErrForm},
	} {
		if x.e == api.OK {
			checkText(t, s, 0)
			continue
		}
		got, place, e := Parse(s)
		checkAnswer(t, got, place, e, Expr{}, x.place, x.e, "Parse(%.300q)", s)
		if !reflect.DeepEqual(got, Expr{}) {
			t.Errorf("Parse(%.300q): %+v beside an error", s, got)
		}
		checkText(t, s, 0, len(s), -1, len(s)+1)
	}
}

func TestPrefixes(t *testing.T) { // P8.1
	x, y, one := name("x"), name("y"), number(1)
	for _, c := range []struct {
		s      string
		at     int
		want   Expr
		behind int
	}{
		// It ends where the grammar doesn't go on.
		{"x", 0, x, 1}, {"x  ", 0, x, 1}, {"x)", 0, x, 1}, {"x ]", 0, x, 1}, {"x, y", 0, x, 1}, {"x y", 0, x, 1}, {"x 1", 0, x, 1}, {`x "a"`, 0, x, 1}, {"x in y", 0, x, 1}, {"x not y", 0, x, 1}, {"x = y", 0, x, 1}, {"x ! = y", 0, x, 1}, {"x !", 0, x, 1}, {"x;", 0, x, 1}, {"x {", 0, x, 1}, {"x(y)", 0, x, 1}, {"x \xff", 0, x, 1}, {"x\x00", 0, x, 1}, {"x\u00e9", 0, x, 1}, {"x orx", 0, x, 1}, {"x or_", 0, x, 1}, {"x and0", 0, x, 1}, {"x Or y", 0, x, 1}, {"x true", 0, x, 1}, {"x @", 0, x, 1}, {"x _", 0, x, 1}, {`x\`, 0, x, 1}, {`"a"b`, 0, text("a"), 3}, {`"a""`, 0, text("a"), 3}, {"1 2", 0, one, 1}, {"1 x", 0, one, 1}, {"1)", 0, one, 1}, {"1=", 0, one, 1}, {"1\u00e9", 0, one, 1}, {"1\"", 0, one, 1}, {"x == y == y", 0, op("==", x, y), 6}, {"x < y <= @", 0, op("<", x, y), 5}, {"not x > y > y", 0, op("not", op(">", x, y)), 9}, {"(x) y", 0, x, 3}, {"(x)(y", 0, x, 3}, {"len(x)(", 0, op("len", x), 6}, {"len(x) len", 0, op("len", x), 6}, {"x.y (", 0, get(x, "y"), 3}, {"x . y . \"z\" @", 0, get(get(x, "y"), "z"), 11}, {"x [1] ]", 0, op("at", x, one), 5}, {"x or y or", -1, Expr{}, 0}, {"this\u00e9", 0, this(), 4}, {"null)", 0, null(), 4}, {"x + y = y", 0, op("+", x, y), 5},
		// It begins where it is told, with blanks ahead of it.
		{"x", 1, Expr{}, 0}, {"  x", 0, x, 3}, {"  x", 1, x, 3}, {"  x", 2, x, 3}, {"@ x @", 1, x, 3}, {"xy", 1, y, 2}, {"not x", 3, x, 5}, {"1 + x", 3, x, 5}, {"12", 1, number(2), 2}, {"10", 1, number(0), 2}, {"<=x", 2, x, 3}, {"\xff\xffx\xff", 2, x, 3}, {`"\"x"`, 3, x, 4}, {"\n\t\r x", 0, x, 5}, {"int(0, x)", 4, number(0), 5}, {"int(0, x)", 6, x, 8},
	} {
		e := api.OK
		switch {
		case c.at < 0:
			e = api.ErrRange
		case c.behind == 0:
			e, c.behind = api.ErrForm, len(c.s)
		}
		got, place, errno := Prefix(c.s, c.at)
		checkAnswer(t, got, place, errno, c.want, c.behind, e, "Prefix(%q, %d)", c.s, c.at)
		checkText(t, c.s, c.at)
	}
	// What the grammar asks for behind a sign must stand, and it stands at its place in the whole text.
	for s, x := range map[string]struct {
		at, place int
		e         api.Errno
	}{
		"": {0, 0, api.ErrForm}, "x": {1, 1, api.ErrForm}, "@": {0, 0, api.ErrForm}, "x@": {1, 1, api.ErrForm}, "@x or": {1, 5, api.ErrForm}, "x or;": {0, 4, api.ErrForm}, "x and in": {0, 8, api.OK}, "@@x <": {2, 5, api.ErrForm}, "@x.": {1, 3, api.ErrForm}, "@x.1": {1, 3, api.ErrForm}, "@x[1": {1, 4, api.ErrForm}, "@len(x": {1, 6, api.ErrForm}, "@len": {1, 4, api.ErrForm}, "@has(x)": {1, 6, api.ErrNone}, "@len(x,": {1, 6, api.ErrNone}, "@01": {1, 2, api.ErrForm}, "@1x": {1, 2, api.ErrForm}, "@1_": {1, 2, api.ErrForm}, "@9223372036854775808": {1, 1, api.ErrNumber}, "@\"\xff": {1, 2, api.ErrUTF}, `@"\ud800`: {1, 2, api.ErrLone}, `@"a`: {1, 3, api.ErrForm}, `@x."\q`: {1, 5, api.ErrForm}, "@(x;": {1, 3, api.ErrForm}, "@(x == y ==": {1, 9, api.ErrForm}, "@x == y !": {1, 7, api.OK}, "@@" + strings.Repeat("-", 32) + "x": {2, 2, api.ErrDeep}, "@@  " + strings.Repeat("(not ", 32) + "x" + strings.Repeat(")", 32) + "@": {3, 3, api.ErrDeep}, "@@" + strings.Repeat("-", 32) + "x + ": {2, 38, api.ErrForm}, strings.Repeat("x+", 32) + "x": {0, 0, api.ErrDeep},
	} {
		got, place, e := Prefix(s, x.at)
		if place != x.place || e != x.e || e != api.OK && !reflect.DeepEqual(got, Expr{}) {
			t.Errorf("Prefix(%q, %d): %+v, %d, %d; want %d, %d", s, x.at, got, place, e, x.place, x.e)
		}
		checkText(t, s, x.at)
	}
	// Places that are none, and the end.
	for _, s := range []string{"", "x", "x + 1", "\xff"} {
		for _, at := range []int{-1, -2, len(s) + 1, len(s) + 2, 1 << 31, 1 << 32, -1 << 32, math.MinInt, math.MaxInt} {
			got, place, e := Prefix(s, at)
			checkAnswer(t, got, place, e, Expr{}, 0, api.ErrRange, "Prefix(%q, %d)", s, at)
		}
		got, place, e := Prefix(s, len(s))
		checkAnswer(t, got, place, e, Expr{}, len(s), api.ErrForm, "Prefix(%q, its end)", s)
	}
	// It isn't too long, and goes on to the end.
	long := strings.Repeat(" ", 5000) + "x" + strings.Repeat("y", 5000)
	got, place, e := Prefix(long, 7)
	checkAnswer(t, got, place, e, name(long[5000:]), 10001, api.OK, "Prefix of a long text")
}

func TestLengths(t *testing.T) { // P8.1 and R2
	for _, many := range []int{2047, 2048, 2049, 2050, 4096, 1 << 20} {
		for _, s := range []string{
			strings.Repeat(" ", many),
			strings.Repeat(" ", many-1) + "x",
			"x" + strings.Repeat(" ", many-1),
			strings.Repeat("x", many),
			`"` + strings.Repeat("x", many-2) + `"`,
			strings.Repeat("9", many),
			strings.Repeat("@", many),
			strings.Repeat("\xff", many),
		} {
			got, place, e := Parse(s)
			if many > 2048 {
				checkAnswer(t, got, place, e, Expr{}, 0, api.ErrLong, "Parse of %d times %q", many, s[1])
			}
			checkText(t, s, 0, many/2)
		}
	}
	for _, many := range []int{2045, 2046, 2047, 2048, 2049, 2050} {
		s := strings.Repeat("\u00e9", (many-2)/2) + strings.Repeat("y", many%2)
		checkText(t, `"`+s+`"`, 0, 1)
	}
}

// nest is a tree that is so deep.
func nest(many int, sign string, arg Expr) Expr {
	e := arg
	for range many - 1 {
		switch {
		case sign == "get":
			e = get(e, "k")
		case sign == "neg" || sign == "not" || calls[sign] == 1:
			e = op(sign, e)
		case sign == "right":
			e = op("-", number(1), e)
		default:
			e = op(sign, e, number(1))
		}
	}
	return e
}

func TestDepths(t *testing.T) { // P8.1 and P8.2
	for _, sign := range []string{"get", "at", "neg", "not", "or", "and", "==", "<", "+", "-", "*", "%", "len", "has", "join", "right"} {
		for _, many := range []int{1, 2, 30, 31, 32, 33, 34, 64, 100} {
			e := nest(many, sign, this())
			s := toldText(e)
			if many <= 32 {
				checkTree(t, e)
			} else {
				got, place, errno := Parse(s)
				checkAnswer(t, got, place, errno, Expr{}, 0, api.ErrDeep, "Parse(%.300q)", s)
				got, place, errno = Prefix("a + "+s, 3)
				checkAnswer(t, got, place, errno, Expr{}, 3, api.ErrDeep, "Prefix(a + %.300q, 3)", s)
			}
			checkText(t, s, 0)
			checkText(t, s+")", 0)
			checkText(t, s+" + 01", 0)
		}
	}
	// The deepest one decides, wherever it stands; parentheses count for nothing.
	for many := range 35 {
		e := nest(max(many, 1), "neg", this())
		for _, s := range []string{"1 + %s", "%s + 1", "has(1, %s)", "has(%s, 1)", "x[%s]", "%s[1]", "%s.k", "not %s", "(%s)", "((((%s))))", "1 or 2 and 3 + %s"} {
			checkText(t, fmt.Sprintf(s, toldText(e)), 0)
		}
	}
	checkText(t, strings.Repeat("(", 1000)+strings.Repeat("-", 31)+"x"+strings.Repeat(")", 1000), 0)
	checkText(t, strings.Repeat("(", 1000)+strings.Repeat("-", 32)+"x"+strings.Repeat(")", 1000), 0)
}

func TestNames(t *testing.T) { // P8.1
	isName := func(s string) bool {
		return wordPiece.FindString(s) == s && s != "" && calls[s] == 0 && !slices.Contains(words, s)
	}
	check := func(s string) {
		t.Helper()
		if IsName(s) != isName(s) {
			t.Errorf("IsName(%.100q): %v", s, IsName(s))
		}
		if IsName(s) != (func() bool { e, _, _ := Parse(s); return alike(e, name(s)) }()) && len(s) <= 2048 {
			t.Errorf("IsName(%.100q): %v; Parse tells otherwise", s, IsName(s))
		}
	}
	for _, s := range []string{"a", "z", "A", "Z", "x1", "x_", "x_1_", "aB9", "or1", "Or", "OR", "nots", "lenx", "Len", "int", "from", "let", "neg", "lit", "var", strings.Repeat("x", 3000), strings.Repeat("_", 10) + "x", "x" + strings.Repeat("_", 10)} {
		check(s)
		check(strings.TrimLeft(s, "_"))
		if want := s[0] != '_'; IsName(s) != want {
			t.Errorf("IsName(%.100q): %v", s, !want)
		}
	}
	for _, s := range slices.Concat(words, slices.Collect(keysOf(calls)), []string{"", " ", "_", "_x", "0", "1x", "x ", " x", "x.y", "x-y", "\u00e9", "x\u00e9", "x\xff", "\x00", "x\n", "(x)", `"x"`, "x y", "-x", "@", "`x", "[x", "{x", "/x", ":x", "x:", "x@", "x[", "x`", "x{", "x/"}) {
		check(s)
		if IsName(s) {
			t.Errorf("IsName(%q): true", s)
		}
		check(s + "x")
		check("x" + s)
		check(strings.ToUpper(s))
	}
	for a := range 256 {
		check(string([]byte{byte(a)}))
		for b := range 256 {
			check(string([]byte{byte(a), byte(b)}))
		}
		check("x" + string([]byte{byte(a)}) + "y")
	}
	for s, want := range map[string][]string{
		"1": nil, "this": nil, "x": {"x"}, "x + x": {"x"}, "z + y + x": {"x", "y", "z"}, "b.a": {"b"}, "b[a]": {"a", "b"}, `"x"`: nil, "not x and X": {"X", "x"}, "has(b, a) or a10 < a9 or a_": {"a", "a10", "a9", "a_", "b"}, "x.x[x]": {"x"}, "len(aa) + len(a) + len(ab)": {"a", "aa", "ab"}, "-x - -x": {"x"}, "this.x": nil, "B + a + A + b": {"A", "B", "a", "b"},
	} {
		e, _, _ := Parse(s)
		if l := Names(e); !slices.Equal(l, want) {
			t.Errorf("Names of %q: %q; want %q", s, l, want)
		}
		checkTree(t, e)
	}
}

func keysOf(m map[string]int) func(func(string) bool) {
	return func(yield func(string) bool) {
		for s := range m {
			if !yield(s) {
				return
			}
		}
	}
}

// each hands on all texts of at most so many pieces.
func each(many int, pieces []string, do func(s string)) {
	var lay func(s string, many int)
	lay = func(s string, many int) {
		do(s)
		if many == 0 {
			return
		}
		for _, piece := range pieces {
			lay(s+piece, many-1)
		}
	}
	lay("", many)
}

func TestShortTexts(t *testing.T) { // P8.1
	less := 0
	if testing.Short() {
		less = 1
	}
	check := func(s string) { checkText(t, s, 0) }
	each(4-less, []string{"or ", "and ", "not ", "==", "<", "=", "-", "+", "*", "(", ")", "[", "]", ".", ",", "1", "0", "x", "len", "has", "this", "true", `"a"`, " "}, check)
	each(5-less, []string{"o", "r", " ", "x", "1", "0", "_", "(", ")", ".", "-"}, check)
	each(6-less, []string{"<", "=", ">", "!", "x", " "}, check)
	each(7-less, []string{"len", "has", "(", ")", ",", "x"}, check)
	each(6-less, []string{"not ", " or ", " and ", "<", "-", "x", "*"}, check)
	each(7-less, []string{"x", "[", "]", "(", ")"}, check)
	each(5-less, []string{"x", ".", "[", "]", `"`, `\`, "k", " ", "\xff"}, check)
	for _, s := range []string{"has(x, y", "has(len(x)", "x[1 + y", "not x < y", "x.k[1]", "-x * y + z", "(x or y", "len(-x"} {
		each(3-less, []string{" or ", " and ", " not ", "==", "<", "-", "+", "*", "(", ")", "[", "]", ".", ",", "1", "x", "len", "this", `"a"`, " "}, func(more string) { check(s + more) })
	}
}

func TestEveryByte(t *testing.T) { // P8.1
	for _, s := range []string{
		` not x . "k\n" [ - 1 ] <= len ( y ) and has ( this , "a" ) or 10 % 2 == z`,
		"x_1.or+(true)-null*0/false",
	} {
		for at := range len(s) + 1 {
			checkText(t, s[:at], at)
			checkText(t, s, at)
			checkText(t, s[at:])
			if at == len(s) {
				break
			}
			checkText(t, s[:at]+s[at+1:])
			for c := range 256 {
				one := string([]byte{byte(c)})
				checkText(t, s[:at]+one+s[at+1:], 0, at)
				checkText(t, s[:at]+one+s[at:], 0)
			}
		}
	}
}

// writer writes trees in one of the many ways in which they may be written, as its numbers say.
type writer struct{ *rand.Rand }

func (w writer) blanks() string {
	s := ""
	for w.Intn(4) == 0 {
		s += string(" \t\n\r"[w.Intn(4)])
	}
	return s
}

func (w writer) string(s string) string {
	b := `"`
	for _, r := range s {
		switch {
		case r > 0xFFFF:
			b += string(r)
		case r < ' ' || r == '"' || r == '\\' || w.Intn(4) == 0:
			b += fmt.Sprintf(`\u%04X`, r)
		default:
			b += string(r)
		}
	}
	return b + `"`
}

// tree writes a tree where what holds less tight than that must stand in parentheses.
func (w writer) tree(e Expr, hold int) string {
	own, s := 8, ""
	switch {
	case e.Op == "lit" && e.Lit.Kind == value.Str:
		s = w.string(e.Lit.Str)
	case len(e.Args) == 0:
		s = toldText(e)
	case e.Op == "get":
		key := e.Name
		if wordPiece.FindString(key) != key || key == "" || w.Intn(2) == 0 {
			key = w.string(key)
		}
		s = w.tree(e.Args[0], 8) + "." + w.blanks() + key
	case e.Op == "at":
		s = w.tree(e.Args[0], 8) + "[" + w.tree(e.Args[1], 0) + "]"
	case calls[e.Op] == 1:
		s = e.Op + w.blanks() + "(" + w.tree(e.Args[0], 0) + ")"
	case calls[e.Op] == 2:
		s = e.Op + w.blanks() + "(" + w.tree(e.Args[0], 0) + "," + w.tree(e.Args[1], 0) + ")"
	default:
		own = tight[e.Op]
		right := own + 1
		left := own
		if own == 4 {
			left = 5
		}
		sign := map[string]string{"neg": "-", "not": "not ", "or": " or ", "and": " and "}[e.Op]
		if sign == "" {
			sign = e.Op
		}
		if len(e.Args) == 1 {
			s = sign + w.tree(e.Args[0], own)
		} else {
			s = w.tree(e.Args[0], left) + sign + w.tree(e.Args[1], right)
		}
	}
	for own < hold || w.Intn(12) == 0 {
		s, own = "("+w.blanks()+s+w.blanks()+")", 8
	}
	return w.blanks() + s + w.blanks()
}

var names = []string{"x", "y", "zz", "a1", "A_", "orx", "nota", "lens", "True"}
var texts = []string{"", "a", "or", "len", "x y", "\n", "\"", "\\", "\u00e9", "\U0001F600", "\x00", "]", "1", "not x", "\x7f", "_k"}

// drawn is a tree of at most so many levels.
func (w writer) drawn(deep int) Expr {
	kind := w.Intn(20)
	if deep == 1 {
		kind = w.Intn(5)
	}
	some := func(of []string) string { return of[w.Intn(len(of))] }
	below := func() Expr { return w.drawn(deep - 1) }
	switch kind {
	case 0:
		return []Expr{null(), truth(true), truth(false), this()}[w.Intn(4)]
	case 1:
		return number(int64(w.Uint64()>>1) >> w.Intn(63))
	case 2:
		return text(some(texts))
	case 3, 4:
		return name(some(names))
	case 5, 6:
		return get(below(), some(slices.Concat(texts, names, words)))
	case 7, 8:
		return op("at", below(), below())
	case 9, 10:
		return op(some([]string{"neg", "not"}), below())
	case 11, 12:
		call := some([]string{"len", "sum", "min", "max", "all", "any", "keys", "has", "count", "starts", "ends", "join"})
		e := op(call)
		for range calls[call] {
			e.Args = append(e.Args, below())
		}
		return e
	}
	return op(some([]string{"or", "and", "==", "!=", "<", "<=", ">", ">=", "+", "-", "*", "/", "%"}), below(), below())
}

func TestHoweverWritten(t *testing.T) { // P8.1 and P8.2
	w := writer{rand.New(rand.NewSource(8))}
	for range 4000 {
		e := w.drawn(1 + w.Intn(5))
		checkTree(t, e)
		s := w.tree(e, 0)
		got, place, errno := Prefix("@"+s+";", 1)
		checkAnswer(t, got, place, errno, e, 1+len(strings.TrimRight(s, " \t\n\r")), api.OK, "Prefix(@%.300q, 1)", s)
		checkText(t, s, 0, w.Intn(len(s)+1))
	}
}

func TestSpoiltTexts(t *testing.T) { // P8.1
	w := writer{rand.New(rand.NewSource(88))}
	pieces := []string{"", " ", "or", "and", "not", "this", "==", "<", "<=", "=", "!", "+", "-", "*", "(", ")", "[", "]", ".", ",", `"`, `"a"`, "1", "0", "x", "_", "len(", "has(", "\xff", `\`, "9223372036854775808", strings.Repeat("-", 30), strings.Repeat("(", 40)}
	for range 20000 {
		s := w.tree(w.drawn(1+w.Intn(4)), 0)
		for range 1 + w.Intn(2) {
			at := w.Intn(len(s) + 1)
			behind := min(at+w.Intn(3), len(s))
			s = s[:at] + pieces[w.Intn(len(pieces))] + s[behind:]
		}
		checkText(t, s, 0, w.Intn(len(s)+1))
	}
}

// small hands on all trees of at most so many levels, of few names and values.
func small(deep int) []Expr {
	l := []Expr{null(), number(0), text("k"), this(), name("x")}
	if deep == 1 {
		return l
	}
	below := small(deep - 1)
	for _, a := range below {
		l = append(l, get(a, "k"), op("neg", a), op("not", a), op("len", a))
		for _, b := range below {
			for _, sign := range []string{"at", "or", "and", "==", "<", "<=", "-", "*", "has"} {
				l = append(l, op(sign, a, b))
			}
		}
	}
	return l
}

func TestSmallTrees(t *testing.T) { // P8.1 and P8.2
	l := small(2)
	for at, a := range l {
		for other, b := range l {
			if Same(a, b) != (at == other) {
				t.Errorf("Same(%q, %q): %v", toldText(a), toldText(b), at != other)
			}
		}
	}
	texts := map[string]int{}
	for at, e := range small(3) {
		// All of them are written; not all need be read, too.
		if at%29 == 0 || len(e.Args) == 1 {
			checkTree(t, e)
		}
		if before, twice := texts[Print(e)]; twice {
			t.Errorf("trees %d and %d have one text: %q", before, at, Print(e))
		}
		texts[Print(e)] = at
	}
}

func TestSame(t *testing.T) { // P8.1
	w := writer{rand.New(rand.NewSource(888))}
	var l []Expr
	for range 300 {
		l = append(l, w.drawn(1+w.Intn(3)))
	}
	list := func(items ...value.Value) Expr {
		return Expr{Op: "lit", Lit: value.Value{Kind: value.Arr, Items: items}}
	}
	l = append(l, null(), truth(false), truth(true), number(0), number(1), number(-1), number(math.MinInt64), text(""), text("0"), text("x"), name("x"), get(this(), "x"), get(this(), ""), get(name("x"), "x"), op("len", this()), op("sum", this()), op("neg", this()), op("not", this()),
		op("has", this(), name("x")), op("has", name("x"), this()), op("+", name("x"), name("y")), op("-", name("x"), name("y")), op("+", name("y"), name("x")), op("at", this(), this()), list(), list(value.Number(1)), list(value.Number(1), value.Number(2)), list(value.List()))
	for _, a := range l {
		for _, b := range l {
			if Same(a, b) != alike(a, b) {
				t.Errorf("Same(%+v, %+v): %v", a, b, !alike(a, b))
			}
		}
	}
	// Of lists it doesn't matter whether they are nil or empty.
	full := Expr{Op: "this", Args: []Expr{}, Lit: value.Value{Items: []value.Value{}, Keys: []string{}}}
	if !Same(full, this()) || !Same(this(), full) {
		t.Error("Same: an empty list isn't nil")
	}
	if Print(full) != "this" || full.Depth() != 1 || len(Names(full)) != 0 {
		t.Errorf("of empty lists: %q, %d, %q", Print(full), full.Depth(), Names(full))
	}
}

// spoil changes all that a tree's lists hold, spare room included.
func spoil(e Expr) {
	args := e.Args[:cap(e.Args)]
	for at := range args {
		spoil(args[at])
		args[at] = name("spoilt")
	}
}

// copyOf is the same tree, by itself.
func copyOf(e Expr) Expr {
	args := e.Args
	e.Args = nil
	for _, arg := range args {
		e.Args = append(e.Args, copyOf(arg))
	}
	return e
}

func TestAnswersAreNew(t *testing.T) { // P8: R6 and R8
	w := writer{rand.New(rand.NewSource(8888))}
	for range 1000 {
		s := w.tree(w.drawn(4), 0)
		one, _, _ := Prefix(s, 0)
		two, _, _ := Prefix(s, 0)
		kept := copyOf(two)
		// No two lists of one answer share anything.
		for at := range one.Args {
			spoil(one.Args[at])
			for other := at + 1; other < len(one.Args); other++ {
				if !alike(one.Args[other], kept.Args[other]) {
					t.Fatalf("%q: Args share something", s)
				}
			}
		}
		spoil(one)
		three, _, _ := Prefix(s, 0)
		if !alike(two, kept) || !alike(three, kept) {
			t.Fatalf("%q: answers share something", s)
		}
		// What is handed in stays as it is, spare room included.
		room := append(make([]Expr, 0, len(kept.Args)+2), kept.Args...)
		handed := kept
		handed.Args = room
		names := Names(handed)
		again := slices.Clone(names)
		text, depth, same := Print(handed), handed.Depth(), Same(handed, two)
		if !alike(handed, two) || !same || !reflect.DeepEqual(room[:cap(room)][len(room):], make([]Expr, 2)) {
			t.Fatalf("%q: what was handed in is changed", s)
		}
		for at := range names[:cap(names)] {
			names[:cap(names)][at] = "spoilt"
		}
		if text != Print(handed) || depth != handed.Depth() || !slices.Equal(Names(handed), again) {
			t.Fatalf("%q: told otherwise the second time", s)
		}
	}
}

func TestErrorsLeaveNothing(t *testing.T) { // P8: R3, R4 and R8
	for range 3 {
		got, place, e := Parse("x + @")
		checkAnswer(t, got, place, e, Expr{}, 4, api.ErrForm, "Parse")
		got, place, e = Parse("x + y")
		checkAnswer(t, got, place, e, op("+", name("x"), name("y")), 0, api.OK, "Parse")
		got, place, e = Prefix(strings.Repeat("-", 40)+"x", 0)
		checkAnswer(t, got, place, e, Expr{}, 0, api.ErrDeep, "Prefix")
		got, place, e = Prefix(strings.Repeat("-", 40)+"x", 38)
		checkAnswer(t, got, place, e, op("neg", op("neg", name("x"))), 41, api.OK, "Prefix")
	}
}

func TestLong(t *testing.T) { // P7
	const many = 1 << 16
	for _, c := range []struct{ ahead, inner, behind string }{
		{"(", "x", ")"}, {"x[", "1", "]"}, {"len(", "x", ")"}, {"has(x,", "1", ")"}, {"has(", "1", ",x)"}, {"-(", "x", ")"}, {"not(", "x", ")"}, {"1+(", "x", ")"}, {"-", "x", ""}, {"not ", "x", ""}, {"- ", "x", ""}, {"", "x", ".k"}, {"", "x", "[1]"}, {"", "x", "+1"}, {"", "x", " or 1"}, {"1*", "x", ""}, {"1==(", "x", ")"}, {"", "x", " and x == y"},
		{"(", "", ""}, {"x[", "", ""}, {"len(", "", ""}, {"x.", "", ""}, {"", "x", ")"}, {"", "x", " x"}, {"", "\"a\"", " "}, {" ", "1", " "}, {"(", "x", " "}, {"(", "has(x)", ")"}, {"(", "\"\xff\"", ")"}, {"(", "01", ")"},
	} {
		begin := strings.Repeat(c.ahead, many) + c.inner
		s := begin + strings.Repeat(c.behind, many)
		if _, place, e := Parse(s); place != 0 || e != api.ErrLong {
			t.Errorf("Parse of %q many times: %d, %d", c, place, e)
		}
		got, place, e := Prefix(s, 0)
		want, wantPlace, wantE := toldLong(s, c.ahead, c.inner, c.behind, begin)
		checkAnswer(t, got, place, e, want, wantPlace, wantE, "Prefix of %q many times", c)
		checkText(t, strings.Repeat(c.ahead, 100)+c.inner+strings.Repeat(c.behind, 100), 0)
	}
}

// toldLong is what is told of so long a text: too deep, but where parentheses alone, or nothing that the grammar goes on with, make it long.
func toldLong(s, ahead, inner, behind, begin string) (Expr, int, api.Errno) {
	switch {
	case ahead == "(" && inner == "x" && behind == ")":
		return name("x"), len(s), api.OK
	case ahead == "" && strings.Contains(")  x", behind):
		e, _, _ := told(inner, 0, true)
		return e, len(inner), api.OK
	case ahead == " ":
		return number(1), len(begin), api.OK
	case inner == "" || behind == " ":
		return Expr{}, len(s), api.ErrForm
	case inner == "has(x)":
		return Expr{}, len(begin) - 1, api.ErrNone
	case inner == "\"\xff\"":
		return Expr{}, len(begin) - 2, api.ErrUTF
	case inner == "01":
		return Expr{}, len(begin) - 1, api.ErrForm
	}
	return Expr{}, 0, api.ErrDeep
}

func TestWide(t *testing.T) { // P7 and P8.2
	// As many parts as 32 levels may hold would be too many: this many are enough to see that each is read once.
	e := this()
	for level := range 14 {
		e = op([]string{"+", "or", "<", "at", "has"}[level%5], e, e)
	}
	checkTree(t, e)
}

func TestTreesThatAreNone(t *testing.T) { // P7
	bad := []Expr{{}, {Op: "?"}, {Op: "get"}, {Op: "at"}, {Op: "not"}, {Op: "neg"}, {Op: "+"}, {Op: "len"}, {Op: "has"}, {Op: "lit", Lit: value.Value{Kind: -1}}, {Op: "lit", Lit: value.Value{Kind: 9}}, {Op: "lit", Lit: value.Value{Kind: value.Obj, Keys: []string{"a"}}}, {Op: "lit", Lit: value.Value{Kind: value.Obj, Items: []value.Value{{}}}}, {Op: "lit", Lit: value.Value{Kind: value.Str, Str: "\xff"}}, {Op: "var", Name: "\xff"}, {Op: "get", Name: "\xff", Args: []Expr{{}, {}, {}}}, {Op: "this", Args: []Expr{{Op: "at", Args: []Expr{{}}}}}, {Op: "+", Args: make([]Expr, 5)}}
	for _, a := range bad {
		Print(a)
		Names(a)
		if a.Depth() != depthOf(a) {
			t.Errorf("Depth of %+v: %d", a, a.Depth())
		}
		for _, b := range bad {
			Same(a, b)
		}
	}
	// Deeper than Parse's may be, and as deep as anything is.
	for _, many := range []int{33, 1000, 1 << 16} {
		e := nest(many, "neg", name("x"))
		if e.Depth() != many || len(Print(e)) != 3*(many-1)+1 || !Same(e, copyOf(e)) || !slices.Equal(Names(e), []string{"x"}) {
			t.Errorf("a tree of depth %d: depth %d, %d bytes, names %q", many, e.Depth(), len(Print(e)), Names(e))
		}
	}
}

func FuzzTexts(f *testing.F) {
	for _, s := range []string{"", "1 + 2 * x", ` not x . "k\n" [ - 1 ] <= len ( y ) and has(this, "a") or 10 % 2 == z`, "has(x)", "len(x, y)", "01", "1x", "\"\xff\"", "x == y == z", strings.Repeat("-", 32) + "x", "9223372036854775808"} {
		f.Add(s, 0)
		f.Add(s, 3)
	}
	f.Fuzz(func(t *testing.T, s string, at int) {
		checkText(t, s, at, 0)
		if len(s) > 0 {
			checkText(t, s, (at&math.MaxInt)%len(s))
		}
		if e, _, errno := Parse(s); errno == api.OK {
			checkTree(t, e)
		}
	})
}
