package expr_test

import (
	"fmt"
	"math"
	"math/rand"
	"reflect"
	"slices"
	"strings"
	"testing"

	"suture/api"
	"suture/expr"
	"suture/lex"
	"suture/tree"
)

const keywords = "var wide atomic local mutex chan go lock unlock send recv print if else repeat goto label"

func num(n int) api.Expr { return api.Expr{Kind: api.Number, N: n} }

func name(s string) api.Expr { return api.Expr{Kind: api.Name, Name: s} }

func op(kind int, parts ...api.Expr) api.Expr { return api.Expr{Kind: kind, Of: parts} }

func minus(e api.Expr) api.Expr { return op(api.Minus, e) }

// minuses is e behind n minuses.
func minuses(n int, e api.Expr) api.Expr {
	for range n {
		e = minus(e)
	}
	return e
}

// operator is a binary one: how it is written, and how close it binds.
type operator struct {
	sign string
	kind int
	rank int
}

func operators() []operator {
	return []operator{
		{"<", api.Less, 1}, {"==", api.Equal, 1}, {"+", api.Add, 2}, {"-", api.Sub, 2},
		{"*", api.Mul, 3}, {"/", api.Div, 3}, {"%", api.Mod, 3},
	}
}

func tokens(t *testing.T, s string) []lex.Token {
	t.Helper()
	l, _, e := lex.Tokens(s)
	if e != api.OK {
		t.Fatalf("2.1: Tokens(%.60q): %d", s, e)
	}
	return l
}

// is holds what Read tells of s, which is an expression up to token next, against want.
func is(t *testing.T, s string, want api.Expr, next int) {
	t.Helper()
	got, at, ok := expr.Read(tokens(t, s), 0)
	if !ok || at != next || !tree.SameExpr(got, want) {
		t.Errorf("4.1: Read(%.60q): %+v, %d, %t, not %+v, %d", s, got, at, ok, want, next)
	}
}

// isAll is is of an expression that nothing follows.
func isAll(t *testing.T, s string, want api.Expr) {
	t.Helper()
	is(t, s, want, len(tokens(t, s))-1)
}

// isNone holds what Read tells of s, with no expression ahead, against the token that can't stand there.
func isNone(t *testing.T, s string, next int) {
	t.Helper()
	noneFrom(t, tokens(t, s), 0, next)
}

func noneFrom(t *testing.T, l []lex.Token, from, next int) {
	t.Helper()
	if e, at, ok := expr.Read(l, from); ok || at != next || !tree.SameExpr(e, api.Expr{}) {
		t.Errorf("4.1: Read(%+v, %d): %+v, %d, %t, not at %d", l, from, e, at, ok, next)
	}
}

// TestExample: chapter 4's example.
func TestExample(t *testing.T) {
	e := op(api.Mul, op(api.Add, name("x"), num(1)), minus(num(2)))
	isAll(t, "(x+1)*(-(2))", e)
	if got := expr.Print(e); got != "(x + 1) * -2" {
		t.Errorf("4.2: Print: %q", got)
	}
}

// TestFactors: a number, a name, a minus and a factor, parentheses.
func TestFactors(t *testing.T) {
	a := name("a")
	isAll(t, "0", num(0))
	isAll(t, "7", num(7))
	isAll(t, "9223372036854775807", num(math.MaxInt))
	isAll(t, "a", a)
	isAll(t, "abcdefghijkl", name("abcdefghijkl"))
	isAll(t, "go1", name("go1"))
	isAll(t, "-a", minus(a))
	isAll(t, "-7", minus(num(7)))
	isAll(t, "-0", minus(num(0)))
	isAll(t, "--a", minus(minus(a)))
	isAll(t, "- - -7", minuses(3, num(7)))
	isAll(t, "-9223372036854775807", minus(num(math.MaxInt)))
	isAll(t, "(a)", a)
	isAll(t, "(7)", num(7))
	isAll(t, "((a))", a)
	isAll(t, "-(a)", minus(a))
	isAll(t, "(-a)", minus(a))
	isAll(t, "-(-(a))", minus(minus(a)))
	isAll(t, "-(a+1)", minus(op(api.Add, a, num(1))))
	isAll(t, "-(a<1)", minus(op(api.Less, a, num(1))))
	isAll(t, "(a==1)", op(api.Equal, a, num(1)))
	isAll(t, " # one\n\ta # two\n + # three\n 1", op(api.Add, a, num(1)))
}

// TestKeywords: a keyword is no name, wherever one may stand.
func TestKeywords(t *testing.T) {
	for _, word := range strings.Fields(keywords) {
		isNone(t, word, 0)
		isNone(t, "-"+word, 1)
		isNone(t, "("+word+")", 1)
		isNone(t, "a + "+word, 2)
		isNone(t, "a * "+word, 2)
		isNone(t, "a < "+word, 2)
		isNone(t, "(a "+word, 2)
		is(t, "a "+word+" + 1", name("a"), 1)
		isAll(t, word+"x", name(word+"x"))
	}
}

// TestOperators: each, and each beside each other one: by their ranks, and from the left.
func TestOperators(t *testing.T) {
	a, b, c := name("a"), name("b"), num(3)
	for _, one := range operators() {
		isAll(t, "a"+one.sign+"b", op(one.kind, a, b))
		isAll(t, "a "+one.sign+" b", op(one.kind, a, b))
		isAll(t, "-a "+one.sign+" b", op(one.kind, minus(a), b))
		isAll(t, "a "+one.sign+" -b", op(one.kind, a, minus(b)))
		isAll(t, "a "+one.sign+" --b", op(one.kind, a, minus(minus(b))))
		isAll(t, "-(a "+one.sign+" b)", minus(op(one.kind, a, b)))
		for _, two := range operators() {
			s := "a " + one.sign + " b " + two.sign + " 3"
			left, right := op(two.kind, op(one.kind, a, b), c), op(one.kind, a, op(two.kind, b, c))
			switch {
			case one.rank == 1 && two.rank == 1:
				is(t, s, op(one.kind, a, b), 3)
			case one.rank >= two.rank:
				isAll(t, s, left)
			default:
				isAll(t, s, right)
			}
			isAll(t, "(a "+one.sign+" b) "+two.sign+" 3", left)
			isAll(t, "a "+one.sign+" (b "+two.sign+" 3)", right)
		}
	}
}

// TestRows: longer ones are taken from the left, too.
func TestRows(t *testing.T) {
	a, b, c, d := name("a"), name("b"), name("c"), name("d")
	isAll(t, "a - b + c - d", op(api.Sub, op(api.Add, op(api.Sub, a, b), c), d))
	isAll(t, "a / b * c % d", op(api.Mod, op(api.Mul, op(api.Div, a, b), c), d))
	isAll(t, "a + b * c - d", op(api.Sub, op(api.Add, a, op(api.Mul, b, c)), d))
	isAll(t, "a * b - c / d", op(api.Sub, op(api.Mul, a, b), op(api.Div, c, d)))
	isAll(t, "a - b < c % d", op(api.Less, op(api.Sub, a, b), op(api.Mod, c, d)))
	isAll(t, "a == b * -c + d", op(api.Equal, a, op(api.Add, op(api.Mul, b, minus(c)), d)))
	isAll(t, "a * (b + c) * d", op(api.Mul, op(api.Mul, a, op(api.Add, b, c)), d))
	isAll(t, "(a < b) + (c == d)", op(api.Add, op(api.Less, a, b), op(api.Equal, c, d)))
	e := a
	for range 1000 {
		e = op(api.Sub, e, b)
	}
	isAll(t, "a"+strings.Repeat("-b", 1000), e)
}

// TestLongRow: a row as long as a text allows is read.
func TestLongRow(t *testing.T) {
	s := "a" + strings.Repeat("+a", (api.MaxText-1)/2)
	e, next, ok := expr.Read(tokens(t, s), 0)
	if !ok || next != api.MaxText-1 {
		t.Fatalf("4.1: Read of a long row: %d, %t", next, ok)
	}
	n := 0
	for ; e.Kind == api.Add && len(e.Of) == 2; e = e.Of[0] {
		n++
	}
	if n != (api.MaxText-1)/2 || !tree.SameExpr(e, name("a")) {
		t.Errorf("4.1: Read of a long row: %d deep, then %+v", n, e)
	}
}

// TestComparisons: one of them in a sum's row; the second is left, or can't stand there.
func TestComparisons(t *testing.T) {
	a, b, c := name("a"), name("b"), name("c")
	for _, one := range []string{"<", "=="} {
		for _, two := range []string{"<", "=="} {
			kind := api.Less
			if one == "==" {
				kind = api.Equal
			}
			is(t, "a "+one+" b "+two+" c", op(kind, a, b), 3)
			is(t, "a "+one+" b + c "+two+" c", op(kind, a, op(api.Add, b, c)), 5)
			is(t, "a "+one+" (b) "+two, op(kind, a, b), 5)
			isNone(t, "(a "+one+" b "+two+" c)", 4)
			isNone(t, "a "+one+" "+two+" b", 2)
			isNone(t, "a * (b + (a "+one+" b "+two+" c))", 9)
		}
	}
	isAll(t, "(a < b) < c", op(api.Less, op(api.Less, a, b), c))
	isAll(t, "a == (b == c)", op(api.Equal, a, op(api.Equal, b, c)))
	isAll(t, "(a < b) == (b < c)", op(api.Equal, op(api.Less, a, b), op(api.Less, b, c)))
}

// TestBehind: what follows an expression and can't go on with it is left.
func TestBehind(t *testing.T) {
	sum := op(api.Add, name("a"), num(1))
	for _, s := range []string{"b", "7", ")", "(", "=", "{", "}", "lock", "else", "b + 1", "(b)", "= = 1", "{ b }", ") * 2", "goto"} {
		is(t, "a + 1 "+s, sum, 3)
		is(t, "(a + 1) "+s, sum, 5)
		is(t, "a "+s, name("a"), 1)
		is(t, "7 "+s, num(7), 1)
		is(t, "-a "+s, minus(name("a")), 2)
		is(t, "a < 1 "+s, op(api.Less, name("a"), num(1)), 3)
	}
	is(t, "a - 1 - 2 b - 3", op(api.Sub, op(api.Sub, name("a"), num(1)), num(2)), 5)
}

// TestCant: the token that can't stand there: at the beginning, behind an operator, behind a parenthesis, at the end.
func TestCant(t *testing.T) {
	isNone(t, "", 0)
	isNone(t, "\n # a\n", 0)
	isNone(t, "-", 1)
	isNone(t, "(", 1)
	isNone(t, "(-", 2)
	isNone(t, "((", 2)
	for _, s := range []string{"+", "*", "/", "%", "<", "=", "==", ")", "{", "}", "if", "lock m"} {
		isNone(t, s, 0)
		isNone(t, s+" a", 0)
		isNone(t, "-"+s, 1)
		isNone(t, "- "+s+" a", 1)
		isNone(t, "("+s+" a)", 1)
		isNone(t, "-("+s+" a)", 2)
		isNone(t, "((a) + "+s, 5)
		for _, o := range operators() {
			isNone(t, "a "+o.sign+" "+s, 2)
			isNone(t, "a "+o.sign+" "+s+" b", 2)
			isNone(t, "(a "+o.sign+" "+s+")", 3)
			isNone(t, "b * a "+o.sign+" -"+s+" 1", 5)
		}
	}
	for _, o := range operators() {
		isNone(t, "a "+o.sign, 2)
		isNone(t, "a "+o.sign+" -", 3)
		isNone(t, "a "+o.sign+" (", 3)
		isNone(t, "a "+o.sign+" (b", 4)
	}
	for _, s := range []string{"b", "7", "(", "=", "{", "}", "lock", "# )", "(b)"} {
		isNone(t, "(a "+s, 2)
		isNone(t, "(a + 1 "+s, 4)
		isNone(t, "((a) "+s, 4)
		isNone(t, "1 * -(a "+s, 5)
	}
	isNone(t, "()", 1)
	isNone(t, "(a + 1", 4)
	isNone(t, "((a + 1)", 6)
}

// TestDepth: parentheses and minuses, MaxDepth within one another, and one more; the one that is too deep is told.
func TestDepth(t *testing.T) {
	a := name("a")
	open, shut := strings.Repeat("(", api.MaxDepth), strings.Repeat(")", api.MaxDepth)
	line := strings.Repeat("-", api.MaxDepth)
	isAll(t, open+"a"+shut, a)
	isAll(t, open+"a + 1"+shut, op(api.Add, a, num(1)))
	isAll(t, line+"a", minuses(api.MaxDepth, a))
	isAll(t, line+"7", minuses(api.MaxDepth, num(7)))
	isNone(t, open+"(a)"+shut, api.MaxDepth)
	isNone(t, open+"-a"+shut, api.MaxDepth)
	isNone(t, line+"-a", api.MaxDepth)
	isNone(t, line+"(a)", api.MaxDepth)
	isNone(t, open+"(", api.MaxDepth)
	isNone(t, line+"-", api.MaxDepth)
	isNone(t, open+")", api.MaxDepth)
	isNone(t, line+")", api.MaxDepth)
	isNone(t, open+"a + -b"+shut, api.MaxDepth+2)
	isNone(t, open+"a < (b)"+shut, api.MaxDepth+2)
	isNone(t, strings.Repeat("(", 3000), api.MaxDepth)
	isNone(t, strings.Repeat("-", 3000), api.MaxDepth)
	isAll(t, "-(-(-(-(a))))", minuses(4, a))
	isNone(t, "-(-(-(-(-a))))", 8)
	isNone(t, "(-(-(-(-(a)))))", 8)
	isNone(t, "(-(-(-(-(a + 1)))))", 8)
}

// TestBeside: only what is within one another counts: all that is closed does not.
func TestBeside(t *testing.T) {
	a := name("a")
	open, shut := strings.Repeat("(", api.MaxDepth), strings.Repeat(")", api.MaxDepth)
	line := strings.Repeat("-", api.MaxDepth)
	deep := minuses(api.MaxDepth, a)
	for _, o := range operators() {
		isAll(t, open+"a"+shut+o.sign+open+"a"+shut, op(o.kind, a, a))
		isAll(t, line+"a"+o.sign+line+"a", op(o.kind, deep, deep))
		isAll(t, line+"a"+o.sign+open+"a"+shut, op(o.kind, deep, a))
		isAll(t, "("+line[1:]+"a"+o.sign+line[1:]+"a)", op(o.kind, minuses(7, a), minuses(7, a)))
		isNone(t, "("+line[1:]+"a"+o.sign+line+"a)", 1+7+2+7)
		isNone(t, open+"a"+shut+o.sign+open+"(", 2*api.MaxDepth+2+api.MaxDepth)
		isNone(t, line+"a"+o.sign+line+"(", api.MaxDepth+2+api.MaxDepth)
	}
	is(t, open+"a"+shut+"(", a, 2*api.MaxDepth+1)
	is(t, line+"a-1-2-3", op(api.Sub, op(api.Sub, op(api.Sub, deep, num(1)), num(2)), num(3)), api.MaxDepth+7)
}

// TestWithin: an expression from each place of a list; next counts from the list's beginning.
func TestWithin(t *testing.T) {
	a, b := name("a"), name("b")
	l := tokens(t, "x = a + ( b < 1 ) - 2 }")
	for at, want := range []struct {
		e    api.Expr
		next int
		ok   bool
	}{
		{name("x"), 1, true}, {api.Expr{}, 1, false},
		{op(api.Sub, op(api.Add, a, op(api.Less, b, num(1))), num(2)), 11, true}, {api.Expr{}, 3, false},
		{op(api.Sub, op(api.Less, b, num(1)), num(2)), 11, true},
		{op(api.Less, b, num(1)), 8, true}, {api.Expr{}, 6, false}, {num(1), 8, true}, {api.Expr{}, 8, false},
		{minus(num(2)), 11, true}, {num(2), 11, true}, {api.Expr{}, 11, false}, {api.Expr{}, 12, false},
	} {
		e, next, ok := expr.Read(l, at)
		if ok != want.ok || next != want.next || !tree.SameExpr(e, want.e) {
			t.Errorf("4.1: Read from %d: %+v, %d, %t, not %+v, %d, %t", at, e, next, ok, want.e, want.next, want.ok)
		}
	}
}

// TestOutside: a place below 0 or past the end is none; so is each of a list without tokens.
func TestOutside(t *testing.T) {
	l := tokens(t, "a + 1")
	for _, at := range []int{-1, -2, math.MinInt, len(l), len(l) + 1, math.MaxInt} {
		noneFrom(t, l, at, 0)
		noneFrom(t, nil, at, 0)
		noneFrom(t, append(slices.Clone(l), l...)[:len(l)], at, 0)
	}
	noneFrom(t, nil, 0, 0)
	noneFrom(t, []lex.Token{}, 0, 0)
	noneFrom(t, l[:0], 0, 0)
}

// TestOtherTokens: lists such as Tokens never tells are taken, too: what is no token can't stand there, a lost end is one.
func TestOtherTokens(t *testing.T) {
	a, plus := lex.Token{Kind: lex.Word, Text: "a"}, lex.Token{Kind: lex.Sign, Text: "+"}
	open := lex.Token{Kind: lex.Sign, Text: "("}
	if e, next, ok := expr.Read([]lex.Token{a}, 0); !ok || next != 1 || !tree.SameExpr(e, name("a")) {
		t.Errorf("4.1: Read without an end: %+v, %d, %t", e, next, ok)
	}
	noneFrom(t, []lex.Token{a, plus}, 0, 2)
	noneFrom(t, []lex.Token{a, plus, a}[:2], 0, 2)
	noneFrom(t, []lex.Token{open}, 0, 1)
	noneFrom(t, []lex.Token{open, a}, 0, 2)
	for _, odd := range []lex.Token{
		{}, {Kind: -1, Text: "a"}, {Kind: 99, Text: "a", N: 1}, {Kind: lex.End, Text: "a"}, {Kind: lex.End, Text: "("},
		{Kind: lex.Word}, {Kind: lex.Word, Text: "A"}, {Kind: lex.Word, Text: "a b"}, {Kind: lex.Word, Text: "7", N: 7},
		{Kind: lex.Word, Text: "-"}, {Kind: lex.Word, Text: "("}, {Kind: lex.Word, Text: "abcdefghijklm"}, {Kind: lex.Word, Text: "+"},
		{Kind: lex.Sign}, {Kind: lex.Sign, Text: "a"}, {Kind: lex.Sign, Text: "7", N: 7}, {Kind: lex.Sign, Text: "!"}, {Kind: lex.Sign, Text: "--"},
	} {
		noneFrom(t, []lex.Token{odd, a}, 0, 0)
		noneFrom(t, []lex.Token{a, plus, odd, a}, 0, 2)
		noneFrom(t, []lex.Token{open, a, odd, a}, 0, 2)
		if e, next, ok := expr.Read([]lex.Token{a, odd, a}, 0); !ok || next != 1 || !tree.SameExpr(e, name("a")) {
			t.Errorf("4.1: Read ahead of %+v: %+v, %d, %t", odd, e, next, ok)
		}
	}
}

// reach is how far an expression goes, and if it is one, told without descent: what is open is kept in a list, 'c' for
// parentheses with a comparison in them.
func reach(l []lex.Token) (int, bool) {
	open, operand := []byte{'.'}, true
	for at, t := range l {
		top := &open[len(open)-1]
		closed := false
		switch {
		case operand && (t.Kind == lex.Number || t.Kind == lex.Word && !lex.Keyword(t.Text)):
			closed = true
		case operand && (t.Text == "-" || t.Text == "(") && len(open) <= api.MaxDepth:
			open = append(open, t.Text[0])
		case operand:
			return at, false
		case t.Text == ")" && len(open) > 1:
			open, closed = open[:len(open)-1], true
		case (t.Text == "<" || t.Text == "==") && *top != 'c':
			*top, operand = 'c', true
		case t.Kind == lex.Sign && strings.Contains("+-*/%", t.Text):
			operand = true
		default:
			return at, len(open) == 1
		}
		if closed {
			operand = false
			for open[len(open)-1] == '-' {
				open = open[:len(open)-1]
			}
		}
	}
	return len(l), false
}

// parted is the expression that all of l is, told without descent: by the operator that binds least, the last of those.
func parted(l []lex.Token) api.Expr {
	for rank := 1; rank <= 3; rank++ {
		deep := 0
		for at := len(l) - 1; at > 0; at-- {
			switch l[at].Text {
			case ")":
				deep++
			case "(":
				deep--
			}
			ahead := l[at-1]
			if deep != 0 || ahead.Kind == lex.Sign && ahead.Text != ")" {
				continue
			}
			for _, o := range operators() {
				if o.rank == rank && o.sign == l[at].Text {
					return op(o.kind, parted(l[:at]), parted(l[at+1:]))
				}
			}
		}
	}
	switch {
	case l[0].Text == "-":
		return minus(parted(l[1:]))
	case l[0].Text == "(":
		return parted(l[1 : len(l)-1])
	case l[0].Kind == lex.Number:
		return num(l[0].N)
	}
	return name(l[0].Text)
}

// same holds what Read tells of s against reach and parted, and what is read against 4.3.
func same(t *testing.T, s string) {
	t.Helper()
	l := tokens(t, s)
	e, next, ok := expr.Read(l, 0)
	if far, good := reach(l); next != far || ok != good {
		t.Fatalf("4.1: Read(%q): %d, %t, not %d, %t", s, next, ok, far, good)
	}
	if !ok {
		if !tree.SameExpr(e, api.Expr{}) {
			t.Fatalf("4.1: Read(%q): %+v beside a false", s, e)
		}
		return
	}
	if want := parted(l[:next]); !tree.SameExpr(e, want) {
		t.Fatalf("4.1: Read(%q): %+v, not %+v", s, e, want)
	}
	again(t, e)
}

// again holds e, which was read, against 4.3: it is printed, read the same, and printed the same.
func again(t *testing.T, e api.Expr) {
	t.Helper()
	s := expr.Print(e)
	if s == "" || !expr.Right(e) {
		t.Fatalf("4.3: Print(%+v): %q, Right: %t", e, s, expr.Right(e))
	}
	l := tokens(t, s)
	back, next, ok := expr.Read(l, 0)
	if !ok || next != len(l)-1 || !tree.SameExpr(back, e) {
		t.Fatalf("4.3: Read(%q): %+v, %d, %t, not %+v", s, back, next, ok, e)
	}
	if s2 := expr.Print(back); s2 != s {
		t.Fatalf("4.3: %q is printed as %q", s, s2)
	}
}

// each calls do with all rows of up to n pieces, blanks between.
func each(pieces []string, n int, do func(s string)) {
	layer := []string{""}
	for range n {
		var longer []string
		for _, s := range layer {
			for _, p := range pieces {
				longer = append(longer, s+" "+p)
			}
		}
		for _, s := range longer {
			do(s)
		}
		layer = longer
	}
}

// TestAllTexts: all rows of up to 4 of each token, and of up to 6 of fewer.
func TestAllTexts(t *testing.T) {
	do := func(s string) { same(t, s) }
	each(strings.Fields("a 7 if + - * / % < == = ( ) {"), 4, do)
	each(strings.Fields("a + - * < ( )"), 6, do)
}

// TestManyTexts: longer ones, with depths around MaxDepth, drawn by a fixed rule.
func TestManyTexts(t *testing.T) {
	draw := rand.New(rand.NewSource(4))
	ahead := strings.Fields("a b 7 a b 7 - ( - (")
	behind := strings.Fields("+ - * / % < == ) ) ) )")
	for range 12000 {
		var b strings.Builder
		for range 4 + draw.Intn(40) {
			l := tokens(t, b.String())
			far, ok := reach(l)
			pieces := ahead
			if ok || far == len(l)-1 && far > 0 && !strings.Contains("+-*/%<==(", l[far-1].Text) {
				pieces = behind
			}
			if draw.Intn(60) == 0 {
				pieces = strings.Fields("= { if b")
			}
			b.WriteString(" " + pieces[draw.Intn(len(pieces))])
		}
		same(t, b.String())
	}
}

// prints holds what is printed of e against want; empty, if e is not right.
func prints(t *testing.T, e api.Expr, want string) {
	t.Helper()
	if got, right := expr.Print(e), expr.Right(e); got != want || right != (want != "") {
		t.Errorf("4.2: Print(%+v): %.80q, not %.80q; Right: %t", e, got, want, right)
	}
}

// TestPrint: blanks around binary operators, a minus just ahead of its factor.
func TestPrint(t *testing.T) {
	a, b := name("a"), name("b")
	prints(t, a, "a")
	prints(t, num(0), "0")
	prints(t, num(math.MaxInt), "9223372036854775807")
	prints(t, name("abcdefghijkl"), "abcdefghijkl")
	prints(t, minus(a), "-a")
	prints(t, minus(num(7)), "-7")
	prints(t, minuses(3, num(7)), "---7")
	for _, o := range operators() {
		e := op(o.kind, a, b)
		prints(t, e, "a "+o.sign+" b")
		prints(t, minus(e), "-(a "+o.sign+" b)")
		prints(t, minus(minus(e)), "--(a "+o.sign+" b)")
		prints(t, op(o.kind, minus(a), b), "-a "+o.sign+" b")
		prints(t, op(o.kind, a, minus(b)), "a "+o.sign+" -b")
		prints(t, op(o.kind, a, minus(minus(e))), "a "+o.sign+" --(a "+o.sign+" b)")
	}
}

// TestPairsPrinted: each operator within each other one, on its left and on its right.
func TestPairsPrinted(t *testing.T) {
	a, b, c := name("a"), num(2), name("c")
	for _, out := range operators() {
		for _, in := range operators() {
			inner := op(in.kind, a, b)
			within, bare := "(a "+in.sign+" 2)", "a "+in.sign+" 2"
			left, right := within, within
			if in.rank > out.rank || in.rank == out.rank && in.rank > 1 {
				left = bare
			}
			if in.rank > out.rank {
				right = bare
			}
			prints(t, op(out.kind, inner, c), left+" "+out.sign+" c")
			prints(t, op(out.kind, c, inner), "c "+out.sign+" "+right)
			prints(t, op(out.kind, inner, inner), left+" "+out.sign+" "+right)
		}
	}
}

// full is e with parentheses around all that is made of parts, blanks as 4.2 says.
func full(e api.Expr) string {
	part := func(e api.Expr) string {
		if len(e.Of) > 0 {
			return "(" + full(e) + ")"
		}
		return full(e)
	}
	switch e.Kind {
	case api.Number:
		return fmt.Sprint(e.N)
	case api.Name:
		return e.Name
	case api.Minus:
		return "-" + part(e.Of[0])
	}
	for _, o := range operators() {
		if o.kind == e.Kind {
			return part(e.Of[0]) + " " + o.sign + " " + part(e.Of[1])
		}
	}
	return ""
}

// fewest is s without each pair of parentheses that Read tells the same without.
func fewest(t *testing.T, s string, e api.Expr) string {
	t.Helper()
	for first := 0; first < len(s); first++ {
		if s[first] != '(' {
			continue
		}
		last, deep := first, 1
		for deep > 0 {
			last++
			switch s[last] {
			case '(':
				deep++
			case ')':
				deep--
			}
		}
		less := s[:first] + s[first+1:last] + s[last+1:]
		l := tokens(t, less)
		if got, next, ok := expr.Read(l, 0); ok && next == len(l)-1 && tree.SameExpr(got, e) {
			s = less
			first--
		}
	}
	return s
}

// grown is all expressions with up to n operators, of those kinds.
func grown(n int, binary []int) [][]api.Expr {
	by := [][]api.Expr{{name("a"), num(1)}}
	for k := 1; k <= n; k++ {
		var list []api.Expr
		for _, e := range by[k-1] {
			list = append(list, minus(e))
		}
		for left := range k {
			for _, a := range by[left] {
				for _, b := range by[k-1-left] {
					for _, kind := range binary {
						list = append(list, op(kind, a, b))
					}
				}
			}
		}
		by = append(by, list)
	}
	return by
}

// TestFewest: no parentheses but where Read would else tell another one: all small trees.
func TestFewest(t *testing.T) {
	all := []int{api.Add, api.Sub, api.Mul, api.Div, api.Mod, api.Less, api.Equal}
	for _, list := range slices.Concat(grown(2, all), grown(3, []int{api.Sub, api.Mul, api.Less})) {
		for _, e := range list {
			want := fewest(t, full(e), e)
			if got := expr.Print(e); got != want || !expr.Right(e) {
				t.Fatalf("4.2: Print(%+v): %q, not %q", e, got, want)
			}
			again(t, e)
		}
	}
}

// TestWrong: trees that no text gives, at the top and within another one.
func TestWrong(t *testing.T) {
	a, b := name("a"), num(1)
	for _, e := range []api.Expr{
		{}, {Kind: -1}, {Kind: 11}, {Kind: math.MinInt}, {Kind: math.MaxInt}, {N: 1}, {Name: "a"},
		op(0, a), op(0, a, b), op(99, a, b), op(-4, a, b), op(api.Equal+1, a, b), op(0, api.Expr{}),
		num(-1), num(math.MinInt), num(-math.MaxInt), op(api.Number, a), {Kind: api.Number, N: 3, Name: "a"}, {Kind: api.Number, Of: []api.Expr{{}}},
		name(""), name("A"), name("aB"), name("1"), name("a1_"), name("a b"), name(" a"), name("a "), name("a\n"), name("a#"), name("#"),
		name("abcdefghijklm"), name("-a"), name("a + 1"), name("(a)"), name("a)"), name("("), name("a == b"), name("\x00"), name("\xff"), name("\u00e9"),
		name(strings.Repeat("a", 7000)), name("a + a"), {Kind: api.Name, Name: "a", N: 1}, op(api.Name), {Kind: api.Name, Name: "a", Of: []api.Expr{a}},
		op(api.Minus), op(api.Minus, a, b), op(api.Minus, a, a, a), {Kind: api.Minus, N: 1, Of: []api.Expr{a}}, {Kind: api.Minus, Name: "a", Of: []api.Expr{a}},
	} {
		wrong(t, e)
	}
	for _, o := range operators() {
		for _, e := range []api.Expr{
			op(o.kind), op(o.kind, a), op(o.kind, a, b, a), op(o.kind, a, b, a, b), op(o.kind, a, api.Expr{}), op(o.kind, api.Expr{}, a),
			{Kind: o.kind, N: 1, Of: []api.Expr{a, b}}, {Kind: o.kind, N: -1, Of: []api.Expr{a, b}}, {Kind: o.kind, Name: "a", Of: []api.Expr{a, b}},
			op(o.kind, a, num(-1)), op(o.kind, num(-1), a), op(o.kind, a, name("if")), op(o.kind, a, op(o.kind, a)),
		} {
			wrong(t, e)
		}
	}
	for _, word := range strings.Fields(keywords) {
		wrong(t, name(word))
	}
}

// wrong holds e, which no text gives, against 4.2, also as a part of what would be right.
func wrong(t *testing.T, e api.Expr) {
	t.Helper()
	prints(t, e, "")
	prints(t, minus(e), "")
	for _, o := range operators() {
		prints(t, op(o.kind, e, name("x")), "")
		prints(t, op(o.kind, name("x"), e), "")
		prints(t, op(o.kind, name("x"), op(api.Add, num(2), minus(e))), "")
	}
}

// TestNone: nil and an empty list are the same.
func TestNone(t *testing.T) {
	empty := []api.Expr{}
	prints(t, api.Expr{Kind: api.Number, N: 5, Of: empty}, "5")
	prints(t, api.Expr{Kind: api.Name, Name: "a", Of: empty}, "a")
	prints(t, op(api.Sub, api.Expr{Kind: api.Number, Of: empty}, api.Expr{Kind: api.Name, Name: "a", Of: empty}), "0 - a")
	prints(t, api.Expr{Of: empty}, "")
}

// TestDeep: what needs more than MaxDepth parentheses and minuses is not right; what needs none may be deeper.
func TestDeep(t *testing.T) {
	a := name("a")
	for n := range 12 {
		left, right, both, row := a, a, a, a
		open, mixed := "", ""
		for k := range n {
			left = op(api.Less, left, num(1))
			right = op(api.Sub, num(1), right)
			both = minus(op(api.Add, both, num(1)))
			row = op(api.Mul, row, num(1))
			open += "("
			if k > 0 {
				mixed = "-(" + mixed + " + 1)"
			} else {
				mixed = "-(a + 1)"
			}
		}
		if n > 0 && n <= api.MaxDepth+1 {
			prints(t, left, open[1:]+"a"+strings.Repeat(" < 1)", n-1)+" < 1")
			prints(t, right, strings.Repeat("1 - (", n-1)+"1 - a"+strings.Repeat(")", n-1))
		}
		if n > 0 && 2*n <= api.MaxDepth {
			prints(t, both, mixed)
		}
		for _, c := range []struct {
			e     api.Expr
			right bool
		}{{left, n <= api.MaxDepth+1}, {right, n <= api.MaxDepth+1}, {both, 2*n <= api.MaxDepth}, {row, true}, {minuses(n, a), n <= api.MaxDepth}} {
			if expr.Right(c.e) != c.right || (expr.Print(c.e) != "") != c.right {
				t.Errorf("4.2: %d deep: Print(%+v): %q", n, c.e, expr.Print(c.e))
			}
		}
	}
}

// TestDeepest: trees as deep as R1 allows, right and wrong ones.
func TestDeepest(t *testing.T) {
	left, right, line, none := name("a"), name("a"), name("a"), name("a")
	for range 1<<10 - 1 {
		left, right = op(api.Add, left, num(1)), op(api.Add, num(1), right)
		line, none = minus(line), op(77, none)
	}
	prints(t, left, "a"+strings.Repeat(" + 1", 1<<10-1))
	again(t, left)
	prints(t, right, "")
	prints(t, line, "")
	prints(t, none, "")
}

// TestLongest: a text of MaxText bytes is read as the expression again, one of a byte more is not.
func TestLongest(t *testing.T) {
	e, n := name("ab"), 2
	for n+15 <= api.MaxText {
		e, n = op(api.Mul, e, name("abcdefghijkl")), n+15
	}
	last := api.MaxText - n - 3
	if last < 1 || last >= api.MaxWord {
		t.Fatal("the text can't be filled up")
	}
	whole := op(api.Mul, e, name(strings.Repeat("z", last)))
	if got := expr.Print(whole); len(got) != api.MaxText || !expr.Right(whole) {
		t.Errorf("4.2: Print of %d bytes: %d", api.MaxText, len(got))
	}
	again(t, whole)
	prints(t, op(api.Mul, e, name(strings.Repeat("z", last+1))), "")
	prints(t, op(api.Less, whole, num(1)), "")
}

// TestWide: a tree whose parts share memory, and which would be far too long a text, is told at once.
func TestWide(t *testing.T) {
	for _, kind := range []int{api.Add, api.Mul, api.Less, api.Minus, 0} {
		for _, leaf := range []api.Expr{name("a"), name(""), num(-1), op(api.Add), {}} {
			e := leaf
			for range 1000 {
				e = op(kind, e, e)
			}
			prints(t, e, "")
			prints(t, op(api.Sub, name("a"), e), "")
		}
	}
}

// parts is each list in e, at any depth.
func parts(e api.Expr) [][]api.Expr {
	var all [][]api.Expr
	if cap(e.Of) > 0 {
		all = append(all, e.Of)
	}
	for _, part := range e.Of {
		all = append(all, parts(part)...)
	}
	return all
}

// TestMemory: no two lists of an answer share memory, nor do two answers; what is handed in stays as it is.
func TestMemory(t *testing.T) {
	room := append(tokens(t, "a - (b < -a) * 7 - a - (a)"), tokens(t, "spare room")...)
	kept := slices.Clone(room)
	l := room[:len(room)-3]
	one, _, _ := expr.Read(l, 0)
	two, _, _ := expr.Read(l, 0)
	seen := map[*api.Expr]int{}
	for _, list := range append(parts(one), parts(two)...) {
		for k := range list[:cap(list)] {
			seen[&list[:cap(list)][k]]++
		}
	}
	for at, n := range seen {
		if n > 1 {
			t.Errorf("R2: %+v is held by %d lists", *at, n)
		}
	}
	if len(parts(one)) != 6 {
		t.Errorf("4.1: %d lists in %+v", len(parts(one)), one)
	}
	for _, list := range parts(one) {
		for k := range list {
			list[k] = api.Expr{}
		}
	}
	three, _, _ := expr.Read(l, 0)
	if !tree.SameExpr(two, three) {
		t.Error("R2: an answer is kept")
	}
	if !slices.Equal(room, kept) {
		t.Error("R2: Read changes the tokens")
	}
}

// TestPrintKeeps: Print and Right change nothing of what they are given, spare room included.
func TestPrintKeeps(t *testing.T) {
	fill := func() api.Expr {
		list := []api.Expr{op(api.Add, name("a"), minus(num(1))), num(2), name("spare"), op(9)}
		return api.Expr{Kind: api.Mul, Of: list[:2]}
	}
	e := fill()
	if got := expr.Print(e); got != "(a + -1) * 2" || !expr.Right(e) {
		t.Errorf("4.2: Print: %q", got)
	}
	want := fill()
	if !reflect.DeepEqual(e, want) || !reflect.DeepEqual(e.Of[:4], want.Of[:4]) {
		t.Errorf("R2: Print changes what it is given: %+v", e.Of[:4])
	}
}
