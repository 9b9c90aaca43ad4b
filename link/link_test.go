package link

import (
	"fmt"
	"math/rand"
	"slices"
	"strings"
	"testing"

	"cheval/api"
	"cheval/expr"
	"cheval/iso"
	"cheval/term"
	"cheval/value"
)

// row is a thing so often, with commas between.
func row(many int, thing string) string {
	return strings.TrimSuffix(strings.Repeat(thing+", ", many), ", ")
}

// chain are so many definitions: the last one is a term, and of each other one a term has the next one's name in the place of each %.
func chain(many int, link, last string) string {
	s := ""
	for at := range many - 1 {
		s += fmt.Sprintf("a%d = %s; ", at, strings.ReplaceAll(link, "%", fmt.Sprintf("a%d", at+1)))
	}
	return s + fmt.Sprintf("a%d = %s;", many-1, last)
}

func TestWidths(t *testing.T) { // P14.1
	for s, width := range map[string]int{
		// Of a term alone.
		"a = just 0;": 1, "a = int(0, 1);": 1, `a = text("ab", 0, 1);`: 1, "a = [];": 1, "a = {};": 1, "a = pick(just 0);": 2, "a = pick(just 0, 1000: just 1, just 2);": 4, "a = [just 0, [just 1, []]];": 5, `a = {"k": just 0, "l": {}};`: 3, "a = list(just 0, 0, 1);": 2, "a = where(just 0, true);": 2, "a = map(neg, just 0);": 2, "a = map(neg | plus 2 | show, just 0);": 2, "a = let n = just 0 from 0 in just 1;": 3, "a = let n = [just 0, just 1] from 0 in {\"k\": just 1};": 6,
		// How deep or long an expression or a text is counts for nothing.
		"a = int(1 + 2 * 3, len(\"abc\"));": 1, `a = text("abcdef", 0, 1 + 1);`: 1, "a = where(just 0, this == 1 or this == 2);": 2,
		// References.
		"a = pick(just 0, [a]);": 4, "a = [a];": 2, `a = {"k": a};`: 2, "a = list(a, 0, 1);": 2, "a = [a, a, a];": 4, "a = b; b = just 0;": 2, "b = just 0; a = b;": 2, "a = b; b = c; c = just 0;": 3, "a = b; b = [a];": 3, "a = [b]; b = pick(a, just 0);": 5, "a = pick(b, b); b = [a, a, a];": 11, "a = where(b, true); b = [just 0];": 4, "a = map(box, b); b = [just 0];": 4, "a = let n = just 0 from this in b; b = list(just 0, 0, 1);": 5, "a = pick(b, c, d); b = pick(c, d); c = pick(d); d = just 0;": 1 + 1 + (1 + 1 + 3 + 1 + 1) + 1 + 3 + 1 + 1,
		// Guarded at any depth.
		"a = [where(map(neg, b), true)]; b = pick(just 1, just 2);": 4, "a = [pick(a, where(a, true), map(neg, a), let n = just 0 from 0 in a)];": 10, `a = {"k": let n = just 0 from 0 in a};`: 4, "a = list(map(box, a), 0, 1);": 3, "a = pick([pick(b)], b); b = pick(just 0, just 1);": 1 + 3 + 1 + 3,
		// The widest of them.
		"a = just 0; b = [a, a]; c = [a];": 3, "a = just 0; b = a; c = just 1;": 2, "or = len; len = this; this = [or];": 4,
		// Up to the greatest.
		"a = [" + row(999, "[]") + "];": 1000, "a = [" + row(999, "a") + "];": 1000, "a = b; b = [" + row(998, "{}") + "];": 1000, "a = [b, " + row(997, "{}") + "]; b = [a, a];": 999, chain(64, "%", "["+row(900, "[]")+"]"): 901 + 63, chain(64, "[%, %]", "[]"): 3, "a = pick(" + row(64, "b") + "); b = pick(" + row(13, "{}") + ");": 1 + 64*15,
	} {
		l := defs(t, s)
		checkAnswer(t, l, width, 0, api.OK)
		check(t, l)
		checkText(t, s)
	}
}

func TestTooWide(t *testing.T) { // P14.1
	for s, number := range map[string]int{
		"a = [" + row(1000, "[]") + "];": 0, "a = [" + row(1000, "a") + "];": 0, "a = [" + row(2000, "a") + "];": 0, "a = just 0; b = [" + row(1000, "[]") + "];": 1, "a = just 0; b = [" + row(1000, "[]") + "]; c = b;": 1,
		// The first of those that are too wide, though what it leads to made it so.
		"a = b; b = [" + row(999, "[]") + "];": 0, "b = [" + row(999, "[]") + "]; a = b;": 1, "c = [a]; a = b; b = [" + row(1000, "[]") + "];": 1,
		"a = pick(" + row(64, "b") + "); b = pick(" + row(14, "{}") + ");": 0, "z = just 0; a = pick(" + row(64, "b") + "); b = pick(" + row(14, "{}") + ");": 1,
		// However wide it would be.
		chain(9, "pick(%, %)", "just 0"): 0, chain(64, "pick(%, %)", "just 0"): 0, chain(64, "pick(%, %, %, %, %, %)", "[]"): 0, chain(63, "where(pick(%, %), true)", "[]") + "z = a0;": 0, chain(60, "pick(%, map(neg, %), let n = just 0 from 0 in %)", "[]"): 0, "z = []; " + chain(63, "pick(%, %)", "just 0"): 1, chain(3, "pick("+row(64, "%")+")", "pick("+row(64, "[]")+")"): 0,
	} {
		l := defs(t, s)
		checkAnswer(t, l, 0, number, api.ErrWide)
		check(t, l)
		checkText(t, s)
	}
	// Each has 3, and twice the next one's.
	for before, width := range []int{1, 5, 13, 29, 61, 125, 253, 509} {
		checkAnswer(t, defs(t, chain(before+1, "pick(%, %)", "just 0")), width, 0, api.OK)
	}
	// Only the first ones are too wide.
	l := defs(t, chain(64, "pick(%, %)", "just 0"))
	slices.Reverse(l)
	checkAnswer(t, l, 0, 8, api.ErrWide)
	check(t, l)
}

// wrongTexts are definitions that may not be a grammar, the error, and the number of its definition.
var wrongTexts = map[string]struct {
	number int
	e      api.Errno
}{
	// A name stands a second time.
	"a = just 0; a = just 0;": {1, api.ErrTwice}, "a = just 0; b = a; a = b;": {2, api.ErrTwice}, "a = just 0; b = a; b = a; a = b;": {2, api.ErrTwice}, "a = just 0; b = a; c = a; c = a; b = a;": {3, api.ErrTwice}, "a = a; a = a; a = a;": {1, api.ErrTwice}, "a = zz; a = just 0;": {1, api.ErrTwice}, "a = just 0; b = zz; a = zz;": {2, api.ErrTwice}, "or = just 0; len = just 0; or = just 0;": {2, api.ErrTwice},
	// Range.
	"a = int(x, 0);": {0, api.ErrName}, "a = int(0, x);": {0, api.ErrName}, "a = int(a, 0);": {0, api.ErrName}, "a = int(this, 0);": {0, api.ErrKind}, "a = int(0, this);": {0, api.ErrKind}, "a = int(this.k, 0);": {0, api.ErrKind}, "a = int(len(this), 0);": {0, api.ErrKind}, "a = int(this == 1, 0);": {0, api.ErrKind}, "a = int(true, 0);": {0, api.ErrKind}, "a = int(0, null);": {0, api.ErrKind}, `a = int("a", 0);`: {0, api.ErrKind}, "a = int(1 == 1, 0);": {0, api.ErrKind}, `a = int(-"a", 0);`: {0, api.ErrKind}, "a = int(0, len(1));": {0, api.ErrKind}, "a = int(x, true);": {0, api.ErrName}, "a = int(true, x);": {0, api.ErrKind}, "a = int(0, 1 + x);": {0, api.ErrName}, "a = just 0; b = int(0, 1); c = int(0, n);": {2, api.ErrName},
	// List, its Exprs ahead of its part.
	"a = list(just 0, x, 0);": {0, api.ErrName}, "a = list(just 0, 0, x);": {0, api.ErrName}, "a = list(just 0, this, 0);": {0, api.ErrKind}, "a = list(just 0, 0, this);": {0, api.ErrKind}, "a = list(zz, 0, true);": {0, api.ErrKind}, "a = list(int(true, 0), x, 0);": {0, api.ErrName}, "a = list(pick(0: a), null, 0);": {0, api.ErrKind}, "a = list(zz, 0, 1);": {0, api.ErrName}, "a = list(just 0, true, x);": {0, api.ErrKind},
	// Text, its Lit ahead of its Exprs.
	`a = text("", 0, 1);`: {0, api.ErrEmpty}, `a = text("", x, true);`: {0, api.ErrEmpty}, `a = text("aa", 0, 1);`: {0, api.ErrTwice}, `a = text("aba", x, 0);`: {0, api.ErrTwice}, `a = text("a\u0061", true, 0);`: {0, api.ErrTwice}, "a = text(\"\u00e9x\u00e9\", 0, 1);": {0, api.ErrTwice}, `a = text("x\ud83d\ude00\ud83d\ude00", 0, 1);`: {0, api.ErrTwice}, `a = text("\u0000\u0000", 0, 1);`: {0, api.ErrTwice}, `a = text("\ufffd\ufffd", 0, 1);`: {0, api.ErrTwice}, `a = text("ab", x, 0);`: {0, api.ErrName}, `a = text("ab", 0, x);`: {0, api.ErrName}, `a = text("ab", this, 0);`: {0, api.ErrKind}, `a = text("ab", 0, "a");`: {0, api.ErrKind}, `a = text("ab", null, x);`: {0, api.ErrKind}, `a = text("abcdefghijklmnopqrstuvwxyza", 0, 1);`: {0, api.ErrTwice},
	// Pick, ahead of its parts.
	"a = pick(0: just 0);": {0, api.ErrRange}, "a = pick(just 0, 0: just 0);": {0, api.ErrRange}, "a = pick(1001: just 0);": {0, api.ErrRange}, "a = pick(1000: just 0, 1001: just 0, just 1);": {0, api.ErrRange}, "a = pick(9223372036854775807: just 0);": {0, api.ErrRange}, "a = pick(4294967297: just 0);": {0, api.ErrRange}, "a = pick(0: zz);": {0, api.ErrRange}, "a = pick(zz, 0: just 0);": {0, api.ErrRange}, "a = pick(int(true, 0), 0: just 0);": {0, api.ErrRange}, "a = pick(" + row(65, "just 0") + ");": {0, api.ErrRange}, "a = pick(" + row(65, "zz") + ");": {0, api.ErrRange}, "a = pick(" + row(600, "a") + ");": {0, api.ErrRange}, "a = [pick(just 0, [pick(0: just 0)])];": {0, api.ErrRange},
	// Record, ahead of its parts.
	`a = {"k": just 0, "k": just 1};`: {0, api.ErrTwice}, `a = {"k": just 0, "l": just 0, "k": just 1};`: {0, api.ErrTwice}, `a = {"k": just 0, "\u006b": just 1};`: {0, api.ErrTwice}, `a = {"": just 0, "": just 1};`: {0, api.ErrTwice}, `a = {"k": zz, "k": int(true, 0)};`: {0, api.ErrTwice}, `a = {"l": {"k": a, "k": a}};`: {0, api.ErrTwice},
	// Ref.
	"a = zz;": {0, api.ErrName}, "a = [zz];": {0, api.ErrName}, "a = b; b = c;": {1, api.ErrName}, "a = just 0; b = pick(a, A);": {1, api.ErrName}, "a = [a, b];": {0, api.ErrName}, "a = n;": {0, api.ErrName}, "a = let n = just 0 from 0 in n;": {0, api.ErrName}, "a = or; len = a;": {0, api.ErrName}, "a = where(zz, true);": {0, api.ErrName}, "a = map(neg, zz);": {0, api.ErrName}, `a = {"k": zz};`: {0, api.ErrName}, "a = let n = just 0 from 0 in zz;": {0, api.ErrName},
	// Bind, ahead of its parts: its Expr, then its first part.
	"a = let n = just 0 from n in just 0;": {0, api.ErrName}, "a = let n = just 0 from x in just 0;": {0, api.ErrName}, "a = let n = just 0 from 0 in let m = just 0 from n in just 0;": {0, api.ErrName}, "a = let n = just 0 from this + n in just 0;": {0, api.ErrName}, `a = let n = just 0 from -"a" in just 0;`: {0, api.ErrKind}, "a = let n = just 0 from len(1) in just 0;": {0, api.ErrKind}, "a = let n = a from 0 in just 0;": {0, api.ErrForm}, "a = let n = b from this in just 0; b = just 0;": {0, api.ErrForm}, "a = let n = [b] from 0 in just 0; b = just 0;": {0, api.ErrForm}, `a = let n = {"k": list(pick(just 0, where(map(neg, b), true)), 0, 1)} from 0 in just 0; b = just 0;`: {0, api.ErrForm}, "a = let n = let m = just 0 from 0 in b from 0 in just 0; b = just 0;": {0, api.ErrForm}, "a = let n = let m = b from 0 in just 0 from 0 in just 0; b = just 0;": {0, api.ErrForm}, "a = let n = just 0 from 0 in let m = b from 0 in just 0; b = just 0;": {0, api.ErrForm}, "a = let n = [just 0, b] from 0 in just 0; b = just 0;": {0, api.ErrForm}, "a = let n = zz from 0 in just 0;": {0, api.ErrForm}, "a = let n = b from x in just 0; b = just 0;": {0, api.ErrName}, `a = let n = b from -"a" in just 0; b = just 0;`: {0, api.ErrKind}, "a = let n = pick(0: b) from 0 in just 0; b = just 0;": {0, api.ErrForm}, "a = let n = int(true, b) from 0 in int(x, 0);": {0, api.ErrKind}, "a = let n = just 0 from 0 in int(true, 0);": {0, api.ErrKind},
	// Scopes.
	"a = let n = int(0, n) from 0 in just 0;": {0, api.ErrName}, "a = let n = list(just 0, n, 1) from 0 in just 0;": {0, api.ErrName}, "a = [let n = just 0 from 0 in just 0, int(0, n)];": {0, api.ErrName}, "a = [let n = just 0 from 0 in let m = just 0 from 0 in just 0, int(0, m)];": {0, api.ErrName}, "a = let n = just 0 from 0 in b; b = int(0, n);": {1, api.ErrName}, "b = int(0, n); a = let n = just 0 from 0 in b;": {0, api.ErrName}, "a = let n = let m = just 0 from 0 in int(0, m) from 0 in int(0, m);": {0, api.ErrName}, "a = let n = just 0 from 0 in [let m = just 0 from 0 in int(n, m), int(n, m)];": {0, api.ErrName}, "a = let n = just 0 from 0 in int(N, 0);": {0, api.ErrName}, "a = let n = where(just 0, n) from 0 in just 0;": {0, api.ErrName}, "a = let n = let m = int(0, n) from 0 in just 0 from 0 in just 0;": {0, api.ErrName}, "a = let n = just 0 from 0 in int(n, this);": {0, api.ErrKind}, "a = let n = just 0 from 0 in int(n == 1, 0);": {0, api.ErrKind}, "a = let n = just 0 from 0 in int(keys(n), 0);": {0, api.ErrKind}, "a = pick(let n = just 0 from 0 in int(0, n), where(just 0, n));": {0, api.ErrName},
	// Where, ahead of its part.
	"a = where(just 0, x);": {0, api.ErrName}, "a = where(just 0, 1);": {0, api.ErrKind}, "a = where(just 0, this + 1);": {0, api.ErrKind}, "a = where(just 0, null);": {0, api.ErrKind}, `a = where(just 0, "a" < 1);`: {0, api.ErrKind}, "a = where(just 0, len(this));": {0, api.ErrKind}, "a = where(zz, 1);": {0, api.ErrKind}, "a = where(pick(0: a), x);": {0, api.ErrName}, "a = where(int(true, 0), true);": {0, api.ErrKind}, "a = where(let n = just 0 from 0 in just 0, n);": {0, api.ErrName}, `a = where(just 0, this == 1 and -"a" == 1);`: {0, api.ErrKind},
	// A term is ahead of its parts, and these are in order.
	"a = [zz, int(true, 0)];": {0, api.ErrName}, "a = [int(true, 0), zz];": {0, api.ErrKind}, `a = [[pick(0: just 0)], text("", 0, 0)];`: {0, api.ErrRange}, `a = [[[text("", 0, 0)]], pick(0: just 0)];`: {0, api.ErrEmpty}, `a = {"l": zz, "k": pick(0: a)};`: {0, api.ErrName}, "a = map(neg, [int(null, 0), zz]);": {0, api.ErrKind}, "a = let n = pick(0: just 0) from 0 in zz;": {0, api.ErrRange}, "a = let n = just 0 from 0 in [zz, pick(0: just 0)];": {0, api.ErrName},
	// The definitions are in order, each with all of its terms, ahead of what leads on.
	"a = zz; b = pick(0: just 0);": {0, api.ErrName}, "a = [[zz]]; b = pick(0: just 0);": {0, api.ErrName}, "a = pick(0: just 0); b = zz;": {0, api.ErrRange}, "a = a; b = zz;": {1, api.ErrName}, "a = b; b = a; c = int(x, 0);": {2, api.ErrName}, "a = [" + row(1000, "a") + "]; b = zz;": {1, api.ErrName}, "a = [" + row(1000, "a") + "]; b = b;": {1, api.ErrLoop},
	// It leads on to itself.
	"a = a;": {0, api.ErrLoop}, "a = pick(just 0, a);": {0, api.ErrLoop}, "a = b; b = a;": {0, api.ErrLoop}, "a = where(a, true);": {0, api.ErrLoop}, "a = map(box, a);": {0, api.ErrLoop}, "a = let n = just 0 from 0 in a;": {0, api.ErrLoop}, "a = just 0; b = c; c = d; d = b;": {1, api.ErrLoop}, "a = pick([a], where(map(neg, pick(just 0, let n = just 1 from 1 in a)), true));": {0, api.ErrLoop}, "a = pick([a], a);": {0, api.ErrLoop}, "a = pick(a, [a]);": {0, api.ErrLoop},
	// It is of the first that leads to itself, not of one that leads to such a one.
	"a = b; b = b;": {1, api.ErrLoop}, "a = b; b = c; c = d; d = c;": {2, api.ErrLoop}, "a = b; b = pick(c, d); c = just 0; d = b;": {1, api.ErrLoop}, "a = [a]; b = pick(a, b);": {1, api.ErrLoop}, "a = pick(b, c); c = pick(b, c); b = pick(just 0, d); d = b;": {1, api.ErrLoop}, "a = pick(b, c); b = pick(c, just 0); c = pick(just 0, a);": {0, api.ErrLoop}, "d = pick(b, c); a = b; b = c; c = a;": {1, api.ErrLoop},
	chain(64, "%", "a0"): {0, api.ErrLoop}, chain(64, "%", "a63"): {63, api.ErrLoop}, chain(64, "pick(%, %)", "a31"): {31, api.ErrLoop}, chain(63, "%", "a0") + "z = [z];": {0, api.ErrLoop},
}

func TestWrong(t *testing.T) { // P14.1 and P14.2
	for s, want := range wrongTexts {
		l := defs(t, s)
		checkAnswer(t, l, 0, want.number, want.e)
		check(t, l)
		checkText(t, s)
		if len(l) <= 4 {
			checkOrders(t, l)
		}
		if len(l) >= 63 {
			continue
		}
		// More definitions beside them, ahead and behind, change but the number.
		checkAnswer(t, slices.Concat(l, defs(t, "y = [y];")), 0, want.number, want.e)
		checkAnswer(t, slices.Concat(defs(t, "y = [y];"), l), 0, want.number+1, want.e)
	}
}

func TestRight(t *testing.T) { // P14.1
	for _, s := range []string{
		// Expressions that may be of the kinds that they must.
		"a = int(-1, 2 * 3);", `a = int(len("a"), 0);`, "a = int(1, 0);", "a = int(1 / 0, 0);", "a = int(0, 9223372036854775807);", "a = list(just 0, -5, 1000);", `a = text("a", -5, 1000);`, `a = where(just 0, this);`, "a = where(just 0, this.k);", "a = where(just 0, this[0]);", "a = where(just 0, not this);", "a = where(just 0, false);", `a = where(just 0, "a" == 1);`, "a = where(just 0, this < 1);",
		// Any sorts may be a Bind's.
		"a = let n = just 0 from this in just 0;", "a = let n = just 0 from null in just 0;", "a = let n = just 0 from true in just 0;", `a = let n = just 0 from "a" in just 0;`, "a = let n = just 0 from keys(this) in just 0;", "a = let n = just 0 from this.k[0] in just 0;",
		// Scopes.
		"a = let n = just 0 from this in int(0, n);", "a = let n = just 0 from this in int(n.k, n[0] + len(n));", "a = let n = just 0 from this in list(just 0, n, n);", `a = let n = just 0 from this in text("ab", n, sum(n));`, "a = let n = just 0 from this in where(just 0, n);", "a = let n = just 0 from this in where(just 0, this == n);", `a = let n = just 0 from 0 in {"k": [pick(just 0, map(neg, list(where(int(0, n), n), n, 1)))]};`, "a = let n = just 0 from 0 in let m = int(0, n) from 0 in int(n, m);", "a = let n = just 0 from 0 in let n = int(0, n) from 0 in int(0, n);", "a = let n = just 0 from 0 in let n = just 0 from 0 in let m = int(0, n) from 0 in let n = just 0 from 0 in int(m, n);", "a = let n = let m = just 0 from 0 in int(0, m) from 0 in int(0, n);", "a = let n = just 0 from 0 in [let m = just 0 from 0 in int(n, m), int(n, n)];", "a = [let n = just 0 from 0 in int(0, n), let m = just 0 from 0 in int(0, m)];", "a = let a = just 0 from 0 in int(0, a);", "n = let n = just 0 from 0 in [n];", "a = let n = let n = just 0 from 0 in int(0, n) from 0 in int(0, n);", "a = let n = just 0 from 0 in let m = just 0 from 0 in let x = where(list(just 0, n, m), n == m) from 0 in text(\"ab\", m, x);",
		// References.
		"a = let n = just 0 from 0 in b; b = just 0;", "a = let n = [just 0, {}] from 0 in [a, b]; b = [a];", "true = [false]; false = [null]; null = [true];", "a = [b]; b = [a];", "a = pick(b, [a]); b = pick(c, [a]); c = pick(just 0, [a], [b], [c]);", "a = b; b = c; c = [a];",
		// Weights, parts, keys, points at the edges.
		"a = pick(1: just 0);", "a = pick(1000: just 0, 999: just 1);", "a = pick(" + row(64, "just 0") + ");", "a = pick(" + row(64, "1000: [a]") + ");", "a = [" + row(65, "just 0") + "];", `a = {"k": just 0, "K": just 0, "": just 0, "kk": just 0};`, `a = {"k": {"k": just 0}};`, `a = [{"k": just 0}, {"k": just 0}];`, "a = text(\"\u00e9\u00ea\u00ebe\u0301\", 0, 1);", `a = text("\ud83d\ude00\ud83d\ude01", 0, 1);`, `a = text("aA", 0, 1);`, `a = text("\u0000\ufffd", 0, 1);`, `a = just "";`, `a = just "aa";`,
		// Many definitions.
		chain(64, "[%]", "a0"), chain(64, "%", "[a0]"), chain(64, "pick([%], just 0)", "a5"),
	} {
		l := defs(t, s)
		if _, e := check(t, l); e != api.OK {
			t.Errorf("of %q the words tell %d", s, e)
		}
		checkText(t, s)
		if g, _, e := Link(l); e != api.OK || g == nil {
			t.Errorf("P14.1: Link(%q): %d", s, e)
		}
		if len(l) <= 4 {
			checkOrders(t, l)
		}
	}
}

func TestFull(t *testing.T) { // P14.1
	l := defs(t, chain(64, "[%]", "a0"))
	checkAnswer(t, l, 3, 0, api.OK)
	checkAnswer(t, l[:1], 0, 0, api.ErrName)
	checkAnswer(t, slices.Concat(l, defs(t, "z = just 0;")), 0, 64, api.ErrFull)
	// That there are too many is told ahead of all else.
	checkAnswer(t, slices.Concat(l, l), 0, 64, api.ErrFull)
	checkAnswer(t, slices.Concat(defs(t, "a0 = a0; z = zz; y = y; w = pick(0: just 0);"), l), 0, 64, api.ErrFull)
	checkAnswer(t, slices.Repeat(defs(t, "a = zz;"), 65), 0, 64, api.ErrFull)
	checkAnswer(t, slices.Repeat(defs(t, "a = zz;"), 64), 0, 1, api.ErrTwice)
	checkAnswer(t, slices.Repeat(defs(t, "a = just 0;"), 1<<16), 0, 64, api.ErrFull)
	s := chain(65, "[%]", "a0")
	checkText(t, s)
	if g, place, e := Read(s); g != nil || place != 64 || e != api.ErrFull {
		t.Errorf("P14.1: Read(%q): %v, %d, %d", s, g, place, e)
	}
	// Nobody writes it, but it is a grammar of nothing.
	checkAnswer(t, nil, 0, 0, api.OK)
	checkAnswer(t, []term.Def{}, 0, 0, api.OK)
}

func TestRead(t *testing.T) { // P14.1
	for s, want := range map[string]struct {
		place int
		e     api.Errno
	}{
		"": {0, api.ErrForm}, "a": {1, api.ErrForm}, "a = just 0": {10, api.ErrForm}, "a = @;": {4, api.ErrForm}, "a = just 01;": {10, api.ErrForm}, "a = zz; b = @;": {12, api.ErrForm}, "a = just 99999999999999999999;": {9, api.ErrNumber}, "a = map(nag, a);": {8, api.ErrName}, "a = map(times 0, a);": {14, api.ErrRange}, "a = just \"\xff\";": {10, api.ErrUTF}, `a = just "\ud800";`: {10, api.ErrLone}, "a = where(a, has(1));": {18, api.ErrNone},
		"a = " + strings.Repeat("[", 33) + strings.Repeat("]", 33) + ";": {0, api.ErrDeep}, "b = zz; a = " + strings.Repeat("[", 33) + strings.Repeat("]", 33) + ";": {0, api.ErrDeep}, strings.Repeat(" ", 8193): {0, api.ErrLong}, "a = just 0;" + strings.Repeat(" ", 8182): {0, api.ErrLong}, "a = just 0; a = just 1;" + strings.Repeat(" ", 8169): {1, api.ErrTwice},
		"a = b; b = b; c = d; d = zz;": {3, api.ErrName}, "a = just 0;;": {11, api.ErrForm},
	} {
		g, place, e := Read(s)
		if g != nil || place != want.place || e != want.e {
			t.Errorf("P14.1: Read(%.300q): %v, %d, %d; want %d, %d", s, g, place, e, want.place, want.e)
		}
		checkText(t, s)
	}
	// As deep, and as long, as may be.
	for _, s := range []string{"a = " + strings.Repeat("[", 32) + strings.Repeat("]", 32) + ";", "a = " + strings.Repeat("pick(", 31) + "[a]" + strings.Repeat(")", 31) + ";", "a = just 0;" + strings.Repeat(" ", 8181), "a = " + strings.Repeat("let n = just 0 from 0 in ", 31) + "int(0, n);", "a = " + strings.Repeat("let n = ", 31) + "just 0" + strings.Repeat(" from 0 in just 0", 31) + ";", "a = [" + row(700, "let n = {} from 0 in []") + "];"} {
		checkText(t, s)
	}
	checkText(t, "  a=pick( just 0 ,\n[ a ] ) ;\t")
	if g, place, e := Read("  a=pick( just 0 ,\n[ a ] ) ;\t"); e != api.OK || place != 0 || g.Width() != 4 || g.Text() != "a = pick(1: just 0, 1: [a]);\n" {
		t.Errorf("P14.1: Read: %d, %d", place, e)
	}
}

func TestEveryByte(t *testing.T) { // P14.1
	for _, s := range []string{
		`a = pick(2: b, [a]); b = let n = int(0, 3) from len(this) in list(a, n, n);`,
		`x={"k":text("ab",0,9),"l":where(y,this==n)};y=map(plus 2|show,int(-1,2));`,
	} {
		checkText(t, s)
		for at := range len(s) {
			checkText(t, s[:at])
			checkText(t, s[:at]+s[at+1:])
			for c := range 256 {
				checkText(t, s[:at]+string([]byte{byte(c)})+s[at+1:])
			}
		}
	}
}

func TestPrinted(t *testing.T) { // P6
	random := rand.New(rand.NewSource(1414))
	read := 0
	for range 3000 {
		l := drawnDefs(t, random, 400)
		g, _, e := Link(l)
		if e != api.OK || len(g.Text()) > api.MaxGrammar {
			continue
		}
		read++
		h, place, e := Read(g.Text())
		if e != api.OK || place != 0 {
			t.Errorf("P6: Read(%q): %d, %d", g.Text(), place, e)
			continue
		}
		checkGrammar(t, h, l, g.Width())
	}
	if read < 500 {
		t.Errorf("%d grammars alone were read", read)
	}
}

// roomy is the same term, with spare room behind each of its lists.
func roomy(t term.Term) term.Term {
	t.Keys, t.Weights, t.Isos = room(t.Keys), room(t.Weights), room(t.Isos)
	parts, exprs := room(t.Parts), room(t.Exprs)
	for at := range parts {
		parts[at] = roomy(parts[at])
	}
	for at := range exprs {
		exprs[at] = roomyExpr(exprs[at])
	}
	t.Parts, t.Exprs = parts, exprs
	return t
}

func roomyExpr(x expr.Expr) expr.Expr {
	args := room(x.Args)
	for at := range args {
		args[at] = roomyExpr(args[at])
	}
	x.Args = args
	return x
}

func room[T any](l []T) []T { return append(make([]T, 0, len(l)+3), l...) }

// spoil changes all that a term's lists hold, spare room included.
func spoil(t term.Term) {
	fill(t.Keys, "spoilt")
	fill(t.Weights, -99)
	fill(t.Isos, iso.Iso{Name: "spoilt"})
	for _, x := range t.Exprs {
		spoilExpr(x)
	}
	for _, part := range t.Parts {
		spoil(part)
	}
	fill(t.Exprs, expr.Expr{Op: "spoilt"})
	fill(t.Parts, term.Term{Kind: 99})
	fill(t.Lit.Items, value.Text("spoilt"))
	fill(t.Lit.Keys, "spoilt")
}

func spoilExpr(x expr.Expr) {
	for _, arg := range x.Args {
		spoilExpr(arg)
	}
	fill(x.Args, expr.Expr{Op: "spoilt"})
	fill(x.Lit.Items, value.Text("spoilt"))
	fill(x.Lit.Keys, "spoilt")
}

func fill[T any](l []T, with T) {
	l = l[:cap(l)]
	for at := range l {
		l[at] = with
	}
}

// spare are the things behind the ends of all of a term's lists, told in one text.
func spare(t term.Term) string {
	s := fmt.Sprintf("%q%d%+v", beyond(t.Keys), beyond(t.Weights), beyond(t.Isos))
	s += fmt.Sprintf("%+v%+v", beyond(t.Parts), beyond(t.Exprs))
	for _, part := range t.Parts {
		s += spare(part)
	}
	for _, x := range t.Exprs {
		s += spareExpr(x)
	}
	return s
}

func spareExpr(x expr.Expr) string {
	s := fmt.Sprintf("%+v", beyond(x.Args))
	for _, arg := range x.Args {
		s += spareExpr(arg)
	}
	return s
}

func beyond[T any](l []T) []T { return l[len(l):cap(l)] }

func TestNothingIsShared(t *testing.T) { // P8: R6 and R8
	random := rand.New(rand.NewSource(141414))
	linked := 0
	for range 2000 {
		l := drawnDefs(t, random, 300)
		text := term.Print(l)
		kept := room(l)
		for at := range l {
			kept[at].Term = roomy(l[at].Term)
		}
		spareRoom := fmt.Sprintf("%+v", beyond(kept))
		for _, d := range kept {
			spareRoom += spare(d.Term)
		}
		g, number, e := Link(kept)
		again, againNumber, againE := Link(kept)
		after := fmt.Sprintf("%+v", beyond(kept))
		for _, d := range kept {
			after += spare(d.Term)
		}
		if term.Print(kept) != text || after != spareRoom {
			t.Fatalf("%q: what was handed in is changed", text)
		}
		if number != againNumber || e != againE {
			t.Fatalf("%q: told otherwise of the same", text)
		}
		if e != api.OK {
			continue
		}
		linked++
		width := g.Width()
		// What was handed in may be written to.
		for _, d := range kept {
			spoil(d.Term)
		}
		fill(kept, term.Def{Name: "spoilt"})
		checkGrammar(t, g, l, width)
		// So may what was answered, but the terms that are found.
		fill(g.Names(), "spoilt")
		checkGrammar(t, g, l, width)
		// Two grammars share nothing.
		for _, d := range l {
			found, _ := g.Find(d.Name)
			spoil(found)
		}
		checkGrammar(t, again, l, width)
	}
	if linked < 500 {
		t.Errorf("%d grammars alone were made", linked)
	}
	// Nor do values that no text has.
	lit := value.List(value.Number(1), value.List(value.Number(2)))
	l := []term.Def{{Name: "a", Term: term.Term{Kind: term.Where, Parts: []term.Term{{Lit: lit}}, Exprs: []expr.Expr{{Op: "==", Args: []expr.Expr{{Op: "this"}, {Op: "lit", Lit: lit.Copy()}}}}}}}
	text := term.Print(l)
	g, _, e := Link(l)
	fill(lit.Items[1].Items, value.Text("spoilt"))
	spoil(l[0].Term)
	if e != api.OK || g.Text() != text {
		t.Errorf("%q, %d: something is shared", text, e)
	}
}

func TestErrorsLeaveNothing(t *testing.T) { // P8: R3, R4 and R8
	for range 3 {
		checkAnswer(t, defs(t, "a = b; b = a;"), 0, 0, api.ErrLoop)
		checkAnswer(t, defs(t, "a = b; b = [a];"), 3, 0, api.OK)
		checkAnswer(t, defs(t, "a = [b];"), 0, 0, api.ErrName)
		checkAnswer(t, defs(t, "a = let n = just 0 from 0 in int(0, n);"), 3, 0, api.OK)
		checkAnswer(t, defs(t, "a = int(0, n);"), 0, 0, api.ErrName)
	}
}

func TestTermsThatAreNone(t *testing.T) { // P7
	bad := []term.Term{{Kind: -1}, {Kind: 11}, {Kind: 1 << 62}, {Kind: term.Just, Lit: value.Value{Kind: 9}}, {Kind: term.Text, Lit: value.Value{Kind: value.Str, Str: "\xff\xff"}}, {Kind: term.Text, Lit: value.List()}, {Kind: term.Ref, Name: "\xff"}}
	for kind := range 13 {
		bad = append(bad,
			term.Term{Kind: kind}, term.Term{Kind: kind, Parts: make([]term.Term, 1)}, term.Term{Kind: kind, Parts: make([]term.Term, 2)}, term.Term{Kind: kind, Parts: make([]term.Term, 70)}, term.Term{Kind: kind, Exprs: make([]expr.Expr, 1)}, term.Term{Kind: kind, Exprs: make([]expr.Expr, 3)}, term.Term{Kind: kind, Weights: []int{-5, 0}}, term.Term{Kind: kind, Keys: []string{"a", "a"}}, term.Term{Kind: kind, Parts: []term.Term{{Kind: term.Ref, Name: "a"}, {Kind: term.Bind, Name: "\xff", Parts: make([]term.Term, 3)}, {Kind: term.Ref, Parts: make([]term.Term, 2)}}},
			term.Term{Kind: kind, Parts: make([]term.Term, 2), Keys: []string{"a"}, Weights: []int{1}, Exprs: []expr.Expr{{Op: "?"}, {Op: "at"}, {Op: "get", Args: make([]expr.Expr, 3)}, {Op: "lit", Lit: value.Value{Kind: 9}}}, Lit: value.Text("\xff"), Name: "\x00"},
		)
	}
	for _, a := range bad {
		for _, b := range bad {
			g, number, e := Link([]term.Def{{Name: "a", Term: a}, {Name: "", Term: b}})
			if (g == nil) != (e != api.OK) || e == api.OK && number != 0 || number < 0 || number > 1 {
				t.Errorf("Link of %+v, %+v: %v, %d, %d", a, b, g, number, e)
			}
			if g != nil {
				g.Names()
				g.Find("")
				g.Width()
				g.Text()
			}
		}
	}
}

// nest is a term in as many others, all of a kind; of a Bind in the second parts.
func nest(deep, kind int, t term.Term) term.Term {
	for range deep - 1 {
		around := term.Term{Kind: kind, Parts: []term.Term{t}}
		switch kind {
		case term.Pick:
			around.Weights = []int{1}
		case term.Record:
			around.Keys = []string{"k"}
		case term.List:
			around.Exprs = []expr.Expr{{Op: "lit", Lit: value.Number(0)}, {Op: "lit", Lit: value.Number(1)}}
		case term.Bind:
			around.Name, around.Exprs, around.Parts = "n", []expr.Expr{{Op: "this"}}, []term.Term{{}, t}
		case term.Where:
			around.Exprs = []expr.Expr{{Op: "this"}}
		case term.Map:
			around.Isos = []iso.Iso{{Name: "neg"}}
		}
		t = around
	}
	return t
}

func TestDeep(t *testing.T) { // P7
	self, other := term.Term{Kind: term.Ref, Name: "a"}, term.Term{Kind: term.Ref, Name: "zz"}
	for _, kind := range []int{term.Pick, term.Tuple, term.Record, term.List, term.Bind, term.Where, term.Map} {
		wantE := api.ErrLoop
		if kind == term.Tuple || kind == term.Record || kind == term.List {
			wantE = api.ErrWide
		}
		// As deep as anything is.
		for want, last := range map[api.Errno]term.Term{api.ErrWide: {}, api.ErrName: other, wantE: self} {
			g, number, e := Link([]term.Def{{Name: "a", Term: nest(1<<16, kind, last)}})
			if g != nil || number != 0 || e != want {
				t.Errorf("Link of a term of kind %d that is deep: %v, %d, %d; want %d", kind, g, number, e, want)
			}
		}
	}
}
