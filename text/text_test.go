package text_test

import (
	"fmt"
	"math"
	"math/rand"
	"reflect"
	"slices"
	"strconv"
	"strings"
	"testing"

	"suture/api"
	"suture/expr"
	"suture/lex"
	"suture/parse"
	"suture/text"
	"suture/tree"
)

const keywords = "var wide atomic local mutex chan go lock unlock send recv print if else repeat goto label"

func num(n int) api.Expr { return api.Expr{Kind: api.Number, N: n} }

func name(s string) api.Expr { return api.Expr{Kind: api.Name, Name: s} }

func op(kind int, parts ...api.Expr) api.Expr { return api.Expr{Kind: kind, Of: parts} }

func assign(to string, e api.Expr) api.Stmt { return api.Stmt{Kind: api.Assign, Name: to, E: e} }

// thread is a program without declarations, and with one thread.
func thread(list ...api.Stmt) api.Prog { return api.Prog{Threads: [][]api.Stmt{list}} }

// declared is a program of these declarations, and with one thread, which is empty.
func declared(list ...api.Decl) api.Prog { return api.Prog{Decls: list, Threads: [][]api.Stmt{nil}} }

// lines is a text of these lines, each with a line feed.
func lines(list ...string) string { return strings.Join(list, "\n") + "\n" }

// prints holds what Print tells of p against want, which is a text: it is read as p again, and printed as before.
func prints(t *testing.T, p api.Prog, want string) {
	t.Helper()
	if got := text.Print(p); got != want {
		t.Errorf("6.1: Print: %q, not %q", got, want)
		return
	}
	if !text.Right(p) {
		t.Errorf("6.1: Right, of %q, is false", want)
	}
	again, _, e := parse.Read(want)
	if e != api.OK || !tree.Same(p, again) {
		t.Errorf("6.2: %q is not read as what was printed", want)
	} else if got := text.Print(again); got != want {
		t.Errorf("6.2: %q, printed again: %q", want, got)
	}
}

// hasNone holds that p has no text.
func hasNone(t *testing.T, what string, p api.Prog) {
	t.Helper()
	if got := text.Print(p); got != "" {
		t.Errorf("6.1: Print, %s: %.200q, not empty", what, got)
	}
	if text.Right(p) {
		t.Errorf("6.1: Right, %s, is true", what)
	}
}

func read(t *testing.T, s string) api.Prog {
	t.Helper()
	p, at, e := parse.Read(s)
	if e != api.OK {
		t.Fatalf("5.1: Read(%.200q): %v, %d", s, at, e)
	}
	return p
}

// TestExample: chapter 6's example: three lines behind `var x`, the second one with a tab ahead.
func TestExample(t *testing.T) {
	p := read(t, "var x go{x=1}")
	prints(t, p, "var x\ngo {\n\tx = 1\n}\n")
	behind, ok := strings.CutPrefix(text.Print(p), "var x\n")
	list := strings.SplitAfter(behind, "\n")
	if !ok || len(list) != 4 || list[3] != "" || !strings.HasPrefix(list[1], "\t") {
		t.Errorf("6.1: the example: %q", list)
	}
}

// TestOrdinary: a program with a bit of everything, and with notes, which are lost.
func TestOrdinary(t *testing.T) {
	prints(t, read(t, `# two that count
var n    # of both
local i mutex m
chan done 2

go {
	repeat 3 { lock m
	n=n+1 unlock m }
	send done(1)
}
go { recv done i if(i==1) { goto out } else { print -n n = (0) } label out }`), lines(
		"var n", "local i", "mutex m", "chan done 2",
		"go {", "\trepeat 3 {", "\t\tlock m", "\t\tn = n + 1", "\t\tunlock m", "\t}", "\tsend done 1", "}",
		"go {", "\trecv done i", "\tif i == 1 {", "\t\tgoto out", "\t} else {", "\t\tprint -n", "\t\tn = 0", "\t}", "\tlabel out", "}"))
}

// TestDeclarations: each kind as a line; a channel alone has its room.
func TestDeclarations(t *testing.T) {
	all, want := api.Prog{Threads: [][]api.Stmt{nil}}, ""
	for kind, word := range map[int]string{api.Var: "var", api.Wide: "wide", api.Atomic: "atomic", api.Local: "local", api.Mutex: "mutex"} {
		for _, x := range []string{"x", "abcdefghijkl", "go1", "vars"} {
			prints(t, declared(api.Decl{Kind: kind, Name: x}), lines(word+" "+x, "go {", "}"))
		}
		all.Decls = append(all.Decls, api.Decl{Kind: kind, Name: "x"})
		want += word + " x\n"
	}
	for n := range api.MaxRoom + 1 {
		prints(t, declared(api.Decl{Kind: api.Chan, Name: "c", N: n}), lines(fmt.Sprintf("chan c %d", n), "go {", "}"))
		all.Decls = append(all.Decls, api.Decl{Kind: api.Chan, Name: "x", N: n})
		want += fmt.Sprintf("chan x %d\n", n)
	}
	prints(t, all, want+"go {\n}\n")
}

// TestCounts: no declaration, MaxDecls of them, and one more; no thread, MaxThreads of them, and one more.
func TestCounts(t *testing.T) {
	prints(t, thread(), lines("go {", "}"))
	prints(t, api.Prog{Decls: []api.Decl{}, Threads: [][]api.Stmt{{}}}, lines("go {", "}"))
	hasNone(t, "no thread", api.Prog{})
	hasNone(t, "no thread, but a list", api.Prog{Decls: []api.Decl{}, Threads: [][]api.Stmt{}})
	hasNone(t, "a declaration alone", api.Prog{Decls: []api.Decl{{Kind: api.Var, Name: "x"}}})
	var p api.Prog
	want := ""
	for n := range api.MaxDecls {
		x := "x" + strconv.Itoa(n)
		p.Decls = append(p.Decls, api.Decl{Kind: api.Wide, Name: x})
		want += "wide " + x + "\n"
	}
	hasNone(t, "MaxDecls, but no thread", p)
	for n := range api.MaxThreads {
		p.Threads = append(p.Threads, []api.Stmt{assign("x0", num(n)), {Kind: api.Print, E: name("x1")}})
		want += fmt.Sprintf("go {\n\tx0 = %d\n\tprint x1\n}\n", n)
		prints(t, p, want)
	}
	more := p
	more.Decls = append(slices.Clone(p.Decls), api.Decl{Kind: api.Wide, Name: "y"})
	hasNone(t, "MaxDecls and one", more)
	more.Decls = nil
	more.Threads = append(slices.Clone(p.Threads), nil)
	hasNone(t, "MaxThreads and one, which is empty", more)
	prints(t, api.Prog{Threads: make([][]api.Stmt, api.MaxThreads)}, strings.Repeat("go {\n}\n", api.MaxThreads))
	hasNone(t, "too many empty threads", api.Prog{Threads: make([][]api.Stmt, api.MaxThreads+1)})
	prints(t, api.Prog{Threads: [][]api.Stmt{nil, {{Kind: api.Lock, Name: "m"}}, {}}}, lines("go {", "}", "go {", "\tlock m", "}", "go {", "}"))
}

// row is a statement, and its lines without the tabs that stand ahead of all of them.
type row struct {
	s     api.Stmt
	lines []string
}

func rows() []row {
	a, b := name("a"), name("b")
	sum := op(api.Add, a, op(api.Mul, b, num(2)))
	less := op(api.Less, a, b)
	x := assign("x", num(1))
	lock := api.Stmt{Kind: api.Lock, Name: "m"}
	return []row{
		{x, []string{"x = 1"}},
		{assign("abcdefghijkl", sum), []string{"abcdefghijkl = a + b * 2"}},
		{assign("x", op(api.Minus, name("x"))), []string{"x = -x"}},
		{lock, []string{"lock m"}},
		{api.Stmt{Kind: api.Unlock, Name: "m"}, []string{"unlock m"}},
		{api.Stmt{Kind: api.Send, Name: "c", E: num(0)}, []string{"send c 0"}},
		{api.Stmt{Kind: api.Send, Name: "c", E: sum}, []string{"send c a + b * 2"}},
		{api.Stmt{Kind: api.Send, Name: "c", E: op(api.Minus, a)}, []string{"send c -a"}},
		{api.Stmt{Kind: api.Recv, Name: "c", Other: "x"}, []string{"recv c x"}},
		{api.Stmt{Kind: api.Print, E: num(10)}, []string{"print 10"}},
		{api.Stmt{Kind: api.Print, E: less}, []string{"print a < b"}},
		{api.Stmt{Kind: api.If, E: a}, []string{"if a {", "}"}},
		{api.Stmt{Kind: api.If, E: a, Body: []api.Stmt{}, Else: []api.Stmt{}}, []string{"if a {", "}"}},
		{api.Stmt{Kind: api.If, E: less, Body: []api.Stmt{x, lock}}, []string{"if a < b {", "\tx = 1", "\tlock m", "}"}},
		{api.Stmt{Kind: api.If, E: less, Body: []api.Stmt{x}, Else: []api.Stmt{}}, []string{"if a < b {", "\tx = 1", "}"}},
		{api.Stmt{Kind: api.If, E: a, Else: []api.Stmt{x}}, []string{"if a {", "} else {", "\tx = 1", "}"}},
		{api.Stmt{Kind: api.If, E: a, Body: []api.Stmt{lock}, Else: []api.Stmt{x, x}},
			[]string{"if a {", "\tlock m", "} else {", "\tx = 1", "\tx = 1", "}"}},
		{api.Stmt{Kind: api.If, E: a, Else: []api.Stmt{{Kind: api.If, E: b, Else: []api.Stmt{x}}}},
			[]string{"if a {", "} else {", "\tif b {", "\t} else {", "\t\tx = 1", "\t}", "}"}},
		{api.Stmt{Kind: api.If, E: a, Body: []api.Stmt{{Kind: api.If, E: b, Body: []api.Stmt{x}}}, Else: []api.Stmt{lock}},
			[]string{"if a {", "\tif b {", "\t\tx = 1", "\t}", "} else {", "\tlock m", "}"}},
		{api.Stmt{Kind: api.Repeat, N: 5}, []string{"repeat 5 {", "}"}},
		{api.Stmt{Kind: api.Repeat, N: 5, Body: []api.Stmt{x, {Kind: api.Repeat, N: 0}, lock}},
			[]string{"repeat 5 {", "\tx = 1", "\trepeat 0 {", "\t}", "\tlock m", "}"}},
		{api.Stmt{Kind: api.Goto, Name: "l"}, []string{"goto l"}},
		{api.Stmt{Kind: api.Label, Name: "l"}, []string{"label l"}},
	}
}

// deeper is list with one more tab ahead of each line.
func deeper(list []string) []string {
	var all []string
	for _, s := range list {
		all = append(all, "\t"+s)
	}
	return all
}

// TestStatements: each kind as a line, with the words that it bears; by itself, beside others, and within blocks.
func TestStatements(t *testing.T) {
	for _, r := range rows() {
		in := deeper(r.lines)
		prints(t, thread(r.s), lines(slices.Concat([]string{"go {"}, in, []string{"}"})...))
		prints(t, thread(r.s, r.s), lines(slices.Concat([]string{"go {"}, in, in, []string{"}"})...))
		prints(t, api.Prog{Threads: [][]api.Stmt{nil, {r.s}}}, lines(slices.Concat([]string{"go {", "}", "go {"}, in, []string{"}"})...))
		prints(t, thread(api.Stmt{Kind: api.Repeat, N: 2, Body: []api.Stmt{r.s}}),
			lines(slices.Concat([]string{"go {", "\trepeat 2 {"}, deeper(in), []string{"\t}", "}"})...))
		prints(t, thread(api.Stmt{Kind: api.If, E: num(1), Body: []api.Stmt{r.s}}),
			lines(slices.Concat([]string{"go {", "\tif 1 {"}, deeper(in), []string{"\t}", "}"})...))
		for _, other := range rows() {
			prints(t, thread(r.s, other.s), lines(slices.Concat([]string{"go {"}, in, deeper(other.lines), []string{"}"})...))
			prints(t, thread(api.Stmt{Kind: api.If, E: num(1), Body: []api.Stmt{r.s}, Else: []api.Stmt{other.s}}),
				lines(slices.Concat([]string{"go {", "\tif 1 {"}, deeper(in), []string{"\t} else {"}, deeper(deeper(other.lines)), []string{"\t}", "}"})...))
		}
	}
}

// TestExpressions: as chapter 4 prints them, wherever one stands.
func TestExpressions(t *testing.T) {
	for s, want := range map[string]string{
		"(x+1)*(-(2))":        "(x + 1) * -2",
		"((a))":               "a",
		"a-(b-c)-(d)":         "a - (b - c) - d",
		"(a<b)==(c<d)":        "(a < b) == (c < d)",
		"- - -a*(b%c)":        "---a * (b % c)",
		"-(a+b)":              "-(a + b)",
		"9223372036854775807": "9223372036854775807",
	} {
		p := read(t, fmt.Sprintf("go{x=%s send c %s print %s if %s{}}", s, s, s, s))
		prints(t, p, lines("go {", "\tx = "+want, "\tsend c "+want, "\tprint "+want, "\tif "+want+" {", "\t}", "}"))
	}
	deep := strings.Repeat("-", api.MaxDepth) + "a"
	prints(t, read(t, "go{x="+deep+"}"), lines("go {", "\tx = "+deep, "}"))
}

// TestNoExpressions: what has no text as an expression has none within a statement, whatever follows it.
func TestNoExpressions(t *testing.T) {
	deep := name("a")
	for range api.MaxDepth + 1 {
		deep = op(api.Minus, deep)
	}
	for k, e := range []api.Expr{
		{}, {Kind: 99}, num(-1), num(math.MinInt), name(""), name("go"), name("X"), name("a b"), name("(a)"), name("1"), name("abcdefghijklm"),
		{Kind: api.Number, N: 1, Name: "x"}, {Kind: api.Name, N: 1, Name: "x"}, op(api.Minus), op(api.Minus, num(1), num(2)),
		op(api.Add), op(api.Add, num(1)), op(api.Add, num(1), num(2), num(3)), op(api.Number, num(1)), op(api.Less, num(1), api.Expr{}), deep,
		{Kind: api.Add, N: 1, Of: []api.Expr{num(1), num(2)}},
	} {
		for _, s := range []api.Stmt{assign("x", e), {Kind: api.Send, Name: "c", E: e}, {Kind: api.Print, E: e}, {Kind: api.If, E: e}} {
			hasNone(t, fmt.Sprintf("expression %d", k), thread(s))
			hasNone(t, fmt.Sprintf("expression %d", k), thread(s, assign("x", num(1))))
			hasNone(t, fmt.Sprintf("expression %d", k), thread(s, api.Stmt{Kind: api.Label, Name: "x"}))
			hasNone(t, fmt.Sprintf("expression %d", k), thread(api.Stmt{Kind: api.If, E: num(1), Else: []api.Stmt{s}}))
		}
	}
}

// TestRepeats: numbers 0 to MaxRepeat, and others.
func TestRepeats(t *testing.T) {
	for n := range api.MaxRepeat + 1 {
		prints(t, thread(api.Stmt{Kind: api.Repeat, N: n}), lines("go {", fmt.Sprintf("\trepeat %d {", n), "\t}", "}"))
	}
	for _, n := range []int{-1, -9, api.MaxRepeat + 1, 99, math.MaxInt, math.MinInt, 1 << 32} {
		hasNone(t, fmt.Sprintf("repeat %d", n), thread(api.Stmt{Kind: api.Repeat, N: n}))
		hasNone(t, fmt.Sprintf("repeat %d", n), thread(api.Stmt{Kind: api.Repeat, N: n, Body: []api.Stmt{{Kind: api.Lock, Name: "m"}}}))
	}
}

// TestRooms: a channel's room that is none.
func TestRooms(t *testing.T) {
	for _, n := range []int{-1, -3, api.MaxRoom + 1, 10, math.MaxInt, math.MinInt, 1 << 32} {
		hasNone(t, fmt.Sprintf("chan %d", n), declared(api.Decl{Kind: api.Chan, Name: "c", N: n}))
		hasNone(t, fmt.Sprintf("chan %d", n), declared(api.Decl{Kind: api.Var, Name: "x"}, api.Decl{Kind: api.Chan, Name: "c", N: n}))
	}
}

// TestKinds: kinds that are none, of declarations and of statements.
func TestKinds(t *testing.T) {
	x := api.Decl{Kind: api.Var, Name: "x"}
	for _, kind := range []int{0, -1, api.Chan + 1, 99, math.MaxInt, math.MinInt, 257} {
		for _, d := range []api.Decl{{Kind: kind}, {Kind: kind, Name: "x"}, {Kind: kind, Name: "var x"}, {Kind: kind, Name: "x", N: 1}} {
			hasNone(t, "a declaration's kind", declared(d))
			hasNone(t, "a declaration's kind", declared(x, d))
			hasNone(t, "a declaration's kind", declared(d, x))
		}
	}
	one := assign("x", num(1))
	for _, kind := range []int{0, -1, api.Label + 1, 99, math.MaxInt, math.MinInt, 257} {
		for _, s := range []api.Stmt{{Kind: kind}, {Kind: kind, Name: "x"}, {Kind: kind, Name: "x = 1"}, {Kind: kind, Name: "x", E: num(1)}, {Kind: kind, Body: []api.Stmt{one}}} {
			hasNone(t, "a statement's kind", thread(s))
			hasNone(t, "a statement's kind", thread(one, s))
			hasNone(t, "a statement's kind", thread(s, one))
			hasNone(t, "a statement's kind", thread(api.Stmt{Kind: api.Repeat, N: 1, Body: []api.Stmt{s}}))
			hasNone(t, "a statement's kind", thread(api.Stmt{Kind: api.If, E: num(1), Else: []api.Stmt{s}}))
		}
	}
}

// TestNames: names that are none, wherever one stands: keywords, empty ones, too long ones, and those that would be read
// as more than a name.
func TestNames(t *testing.T) {
	bad := append(strings.Fields(keywords), "", " ", "X", "xY", "1", "1x", "x y", " x", "x ", "x\n", "x # y", "#", "x_y", "é",
		"abcdefghijklm", "x\x00", "x var y", "x = 1 y", "m lock m", "c 1 chan c", "x }", "x\n}\ngo {", strings.Repeat("x", api.MaxText))
	for _, x := range bad {
		for _, d := range []api.Decl{{Kind: api.Var, Name: x}, {Kind: api.Wide, Name: x}, {Kind: api.Atomic, Name: x}, {Kind: api.Local, Name: x}, {Kind: api.Mutex, Name: x}, {Kind: api.Chan, Name: x, N: 1}} {
			hasNone(t, fmt.Sprintf("declared %.20q", x), declared(d))
			hasNone(t, fmt.Sprintf("declared %.20q", x), declared(api.Decl{Kind: api.Var, Name: "x"}, d, api.Decl{Kind: api.Var, Name: "y"}))
		}
		for _, s := range []api.Stmt{assign(x, num(1)), assign("x", name(x)), {Kind: api.Lock, Name: x}, {Kind: api.Unlock, Name: x},
			{Kind: api.Send, Name: x, E: num(1)}, {Kind: api.Send, Name: x, E: name("x")}, {Kind: api.Recv, Name: x, Other: "x"}, {Kind: api.Recv, Name: "x", Other: x},
			{Kind: api.Goto, Name: x}, {Kind: api.Label, Name: x}} {
			hasNone(t, fmt.Sprintf("kind %d of %.20q", s.Kind, x), thread(s))
			hasNone(t, fmt.Sprintf("kind %d of %.20q", s.Kind, x), thread(s, assign("x", num(1))))
			hasNone(t, fmt.Sprintf("kind %d of %.20q", s.Kind, x), thread(s, api.Stmt{Kind: api.Label, Name: "x"}, s))
		}
	}
}

// TestOtherFields: a field that a kind does not have is said by no text.
func TestOtherFields(t *testing.T) {
	hasNone(t, "a room of a var", declared(api.Decl{Kind: api.Var, Name: "x", N: 1}))
	hasNone(t, "a room of a mutex", declared(api.Decl{Kind: api.Mutex, Name: "x", N: -1}))
	for _, r := range rows() {
		for field, bend := range map[string]func(s *api.Stmt){
			"Name":  func(s *api.Stmt) { s.Name = "y" },
			"Other": func(s *api.Stmt) { s.Other = "y" },
			"N":     func(s *api.Stmt) { s.N = 1 },
			"E":     func(s *api.Stmt) { s.E = name("y") },
			"Body":  func(s *api.Stmt) { s.Body = []api.Stmt{{Kind: api.Label, Name: "y"}} },
			"Else":  func(s *api.Stmt) { s.Else = []api.Stmt{{Kind: api.Label, Name: "y"}} },
		} {
			s := r.s
			bend(&s)
			switch {
			case !has(s.Kind, field):
				hasNone(t, fmt.Sprintf("%s of kind %d", field, s.Kind), thread(s))
			case !text.Right(thread(s)):
				t.Errorf("6.1: kind %d has a %s", s.Kind, field)
			}
		}
	}
}

// has tells if a statement of that kind has the field.
func has(kind int, field string) bool {
	return slices.Contains(strings.Fields(fieldsOf(kind)), field)
}

// fieldsOf is which fields a statement of that kind has.
func fieldsOf(kind int) string {
	switch kind {
	case api.Assign, api.Send:
		return "Name E"
	case api.Recv:
		return "Name Other"
	case api.Print:
		return "E"
	case api.If:
		return "E Body Else"
	case api.Repeat:
		return "N Body"
	case api.Lock, api.Unlock, api.Goto, api.Label:
		return "Name"
	}
	return ""
}

// TestPlaces: no place is printed, none is held against another one.
func TestPlaces(t *testing.T) {
	s := assign("x", num(1))
	s.At = 7 + 3i
	s2 := api.Stmt{Kind: api.Repeat, N: 1, Body: []api.Stmt{s}, At: complex(math.NaN(), math.Inf(1))}
	p := api.Prog{Decls: []api.Decl{{Kind: api.Var, Name: "x", At: -1 - 1i}}, Threads: [][]api.Stmt{{s, s2}}}
	prints(t, p, lines("var x", "go {", "\tx = 1", "\trepeat 1 {", "\t\tx = 1", "\t}", "}"))
}

// around is the ways in which a block stands within another one: the statement, and the lines ahead of the block's.
func around() []func(list []api.Stmt) (api.Stmt, []string) {
	return []func(list []api.Stmt) (api.Stmt, []string){
		func(l []api.Stmt) (api.Stmt, []string) {
			return api.Stmt{Kind: api.If, E: name("a"), Body: l}, []string{"if a {"}
		},
		func(l []api.Stmt) (api.Stmt, []string) {
			return api.Stmt{Kind: api.If, E: name("a"), Else: l}, []string{"if a {", "} else {"}
		},
		func(l []api.Stmt) (api.Stmt, []string) {
			return api.Stmt{Kind: api.Repeat, N: 4, Body: l}, []string{"repeat 4 {"}
		},
	}
}

// nested is a program with n blocks within one another (a thread's is the first one), and its lines: by one way, or by
// all ways in turn.
func nested(n, first, step int) (api.Prog, []string) {
	list, all := []api.Stmt{assign("y", num(0))}, []string{"y = 0"}
	ways := around()
	for k := range n - 1 {
		s, ahead := ways[(first+step*k)%len(ways)](list)
		list = []api.Stmt{s}
		all = slices.Concat(ahead, deeper(all), []string{"}"})
	}
	return thread(list...), slices.Concat([]string{"go {"}, deeper(all), []string{"}"})
}

// TestDepth: blocks nested MaxDepth deep, with the tabs ahead of each line; and one deeper.
func TestDepth(t *testing.T) {
	for _, step := range []int{0, 1, 2} {
		for first := range around() {
			for n := 1; n <= api.MaxDepth; n++ {
				p, all := nested(n, first, step)
				prints(t, p, lines(all...))
			}
			p, _ := nested(api.MaxDepth+1, first, step)
			hasNone(t, "one deeper", p)
			p.Threads = append([][]api.Stmt{nil}, p.Threads...)
			hasNone(t, "one deeper", p)
		}
	}
	p, _ := nested(api.MaxDepth, 0, 0)
	inner := &p.Threads[0][0]
	for len(inner.Body[0].Body) > 0 {
		inner = &inner.Body[0]
	}
	inner.Body = []api.Stmt{{Kind: api.Repeat, N: 1}}
	hasNone(t, "an empty block, one deeper", p)
}

// TestTooDeep: trees up to 2^10 deep have no text.
func TestTooDeep(t *testing.T) {
	for _, n := range []int{10, 100, 1 << 10} {
		for first := range around() {
			list := []api.Stmt{assign("y", num(0))}
			for range n - 1 {
				s, _ := around()[first](list)
				list = []api.Stmt{s}
			}
			hasNone(t, "a deep tree", thread(list...))
		}
	}
	e := name("a")
	for range 1 << 10 {
		e = op(api.Add, num(1), e)
	}
	hasNone(t, "a deep expression", thread(assign("x", e)))
}

// TestShared: lists that stand at many places of a tree, so that written out it has no end in sight. Each call ends.
func TestShared(t *testing.T) {
	for _, kind := range []int{api.If, api.Repeat, api.Lock, 0, 99} {
		var list []api.Stmt
		for range 1000 {
			s := api.Stmt{Kind: kind, E: num(1), Body: list, Else: list}
			if kind == api.Repeat {
				s = api.Stmt{Kind: kind, N: 1, Body: list}
			}
			list = []api.Stmt{s, s, s}
		}
		hasNone(t, "shared lists", api.Prog{Threads: [][]api.Stmt{list, list, list}})
	}
	e := num(1)
	for range 1000 {
		e = op(api.Mul, e, e)
	}
	hasNone(t, "shared expressions", thread(api.Stmt{Kind: api.Print, E: e}, api.Stmt{Kind: api.If, E: e}))
	few := []api.Stmt{assign("x", num(1))}
	both := api.Stmt{Kind: api.If, E: name("x"), Body: few, Else: few}
	prints(t, api.Prog{Threads: [][]api.Stmt{{both}, few}}, lines("go {", "\tif x {", "\t\tx = 1", "\t} else {", "\t\tx = 1", "\t}", "}", "go {", "\tx = 1", "}"))
}

// ofLength is a program with a text of n bytes: short statements, as many as fit, the last one with a longer
// name.
func ofLength(n int) (api.Prog, string) {
	p, want := thread(), "go {\n"
	short := len("\tlock x\n")
	rest := n - len("go {\n}\n")
	for ; rest > 0; rest -= short {
		x := "x"
		if rest < 2*short {
			x += strings.Repeat("x", rest-short)
			rest = short
		}
		p.Threads[0] = append(p.Threads[0], api.Stmt{Kind: api.Lock, Name: x})
		want += "\tlock " + x + "\n"
	}
	return p, want + "}\n"
}

// TestLength: a text of MaxText bytes is one, a longer one is none.
func TestLength(t *testing.T) {
	for n := api.MaxText - 40; n <= api.MaxText+40; n++ {
		p, want := ofLength(n)
		if len(want) != n {
			t.Fatalf("%d bytes, not %d", len(want), n)
		}
		if n <= api.MaxText {
			prints(t, p, want)
		} else {
			hasNone(t, fmt.Sprintf("%d bytes", n), p)
		}
	}
	p, _ := ofLength(10 * api.MaxText)
	hasNone(t, "a very long text", p)
	e := num(1)
	for range 1400 {
		e = op(api.Add, e, num(1))
	}
	p = thread(assign("x", e))
	prints(t, p, lines("go {", "\tx = 1"+strings.Repeat(" + 1", 1400), "}"))
	for range 200 {
		e = op(api.Add, e, num(1))
	}
	hasNone(t, "a long expression", thread(assign("x", e)))
	hasNone(t, "long expressions", thread(p.Threads[0][0], p.Threads[0][0]))
}

// TestGrown: what was read from a text without needless bytes may have none that is short enough.
func TestGrown(t *testing.T) {
	inner := strings.Repeat("x=1 ", 1400)
	p := read(t, "go{if x{if x{"+inner+"}}}")
	hasNone(t, "a text that grows beyond MaxText", p)
	p.Threads[0][0].Body[0].Body = p.Threads[0][0].Body[0].Body[:600]
	prints(t, p, lines("go {", "\tif x {", "\t\tif x {", strings.Repeat("\t\t\tx = 1\n", 600)+"\t\t}", "\t}", "}"))
}

// laid is how a program of these tokens is to be printed, told without a tree: by what each token is and what stands just
// ahead of it. The tokens have no needless parentheses.
func laid(words []string) string {
	words = strings.Fields(strings.ReplaceAll(" "+strings.Join(words, " ")+" ", " else { } ", " "))
	deep := 0
	var b strings.Builder
	for k, word := range words {
		if word == "}" {
			deep--
		}
		switch {
		case k == 0:
		case begins(words, k):
			b.WriteString("\n" + strings.Repeat("\t", deep))
		case words[k-1] != "(" && word != ")" && !isFactors(words, k-1):
			b.WriteString(" ")
		}
		b.WriteString(word)
		if word == "{" {
			deep++
		}
	}
	return b.String() + "\n"
}

// begins tells if word k is the first one of its line.
func begins(words []string, k int) bool {
	if lex.Keyword(words[k]) {
		return words[k] != "else"
	}
	return words[k] == "}" || k+1 < len(words) && words[k+1] == "="
}

// isFactors tells if word k is a minus of a factor: where an operand may begin.
func isFactors(words []string, k int) bool {
	if words[k] != "-" {
		return false
	}
	ahead := strings.Fields("= == < + - * / % ( print if")
	return slices.Contains(ahead, words[k-1]) || words[k-2] == "send"
}

// maker draws a program by a fixed rule: its tokens' texts, without needless parentheses.
type maker struct {
	draw  *rand.Rand
	words []string
}

func (m *maker) add(words ...string) { m.words = append(m.words, words...) }

func (m *maker) pick(list string) string {
	words := strings.Fields(list)
	return words[m.draw.Intn(len(words))]
}

func (m *maker) name() string { return m.pick("x y m abcdefghijkl go1 iff z0") }

func (m *maker) grow(deep int) api.Expr {
	switch kind := m.draw.Intn(12); {
	case deep == 0 || kind < 2:
		return num(m.draw.Intn(1000))
	case kind < 4:
		return name(m.name())
	case kind == 4:
		return op(api.Minus, m.grow(deep-1))
	default:
		return op(api.Add+kind-5, m.grow(deep-1), m.grow(deep-1))
	}
}

func (m *maker) expression() {
	l, _, _ := lex.Tokens(expr.Print(m.grow(m.draw.Intn(4))))
	for _, token := range l[:len(l)-1] {
		m.add(token.Text)
	}
}

func (m *maker) block(deep int) {
	m.add("{")
	for m.draw.Intn(4) > 0 {
		m.statement(deep)
	}
	m.add("}")
}

func (m *maker) statement(deep int) {
	word := m.pick("= lock unlock send recv print if repeat goto label")
	if deep == api.MaxDepth && (word == "if" || word == "repeat") {
		word = "print"
	}
	switch word {
	case "=":
		m.add(m.name(), "=")
		m.expression()
	case "send":
		m.add(word, m.name())
		m.expression()
	case "recv":
		m.add(word, m.name(), m.name())
	case "print":
		m.add(word)
		m.expression()
	case "if":
		m.add(word)
		m.expression()
		m.block(deep + 1)
		if m.draw.Intn(2) == 0 {
			m.add("else")
			m.block(deep + 1)
		}
	case "repeat":
		m.add(word, strconv.Itoa(m.draw.Intn(api.MaxRepeat+1)))
		m.block(deep + 1)
	default:
		m.add(word, m.name())
	}
}

func (m *maker) program() []string {
	m.words = nil
	for range m.draw.Intn(api.MaxDecls + 1) {
		word := m.pick("var wide atomic local mutex chan")
		m.add(word, m.name())
		if word == "chan" {
			m.add(strconv.Itoa(m.draw.Intn(api.MaxRoom + 1)))
		}
	}
	for range 1 + m.draw.Intn(api.MaxThreads) {
		m.add("go")
		m.block(1)
	}
	return m.words
}

// TestManyPrograms: drawn programs, read, printed, read again and printed again; each line is where a rule without trees
// asks for it.
func TestManyPrograms(t *testing.T) {
	m := maker{draw: rand.New(rand.NewSource(6))}
	printed, long := 0, 0
	for range 4000 {
		words := m.program()
		s := strings.Join(words, " ")
		if len(s) > api.MaxText {
			continue
		}
		p, want := read(t, s), laid(words)
		if len(want) > api.MaxText {
			hasNone(t, "too long a text", p)
			long++
			continue
		}
		prints(t, p, want)
		printed++
	}
	if printed < 3000 || long < 1 {
		t.Errorf("only %d programs, %d too long", printed, long)
	}
}

// proper tells if p is such as chapter 5 has it, whatever its length.
func proper(p api.Prog) bool {
	if len(p.Decls) > api.MaxDecls || len(p.Threads) == 0 || len(p.Threads) > api.MaxThreads {
		return false
	}
	for _, d := range p.Decls {
		most := 0
		if d.Kind == api.Chan {
			most = api.MaxRoom
		}
		if d.Kind < api.Var || d.Kind > api.Chan || !lex.IsName(d.Name) || d.N < 0 || d.N > most {
			return false
		}
	}
	return !slices.ContainsFunc(p.Threads, func(block []api.Stmt) bool { return !properBlock(block, 1) })
}

func properBlock(block []api.Stmt, deep int) bool {
	for _, s := range block {
		has := func(field string) bool { return has(s.Kind, field) }
		zero := tree.SameExpr(s.E, api.Expr{})
		switch {
		case fieldsOf(s.Kind) == "", deep > api.MaxDepth,
			has("Name") != (s.Name != ""), s.Name != "" && !lex.IsName(s.Name),
			has("Other") != (s.Other != ""), s.Other != "" && !lex.IsName(s.Other),
			has("E") == zero, !zero && !expr.Right(s.E),
			!has("N") && s.N != 0, s.N < 0, s.N > api.MaxRepeat,
			!has("Body") && len(s.Body) > 0, !has("Else") && len(s.Else) > 0,
			has("Body") && deep == api.MaxDepth,
			!properBlock(s.Body, deep+1), !properBlock(s.Else, deep+1):
			return false
		}
	}
	return true
}

// stmts is where each statement of a block stands, those within others too.
func stmts(block []api.Stmt) []*api.Stmt {
	var list []*api.Stmt
	for k := range block {
		list = append(list, &block[k])
		list = append(list, stmts(block[k].Body)...)
		list = append(list, stmts(block[k].Else)...)
	}
	return list
}

// bend turns one thing in p, which is drawn.
func (m *maker) bend(p *api.Prog) {
	if len(p.Decls) > 0 && m.draw.Intn(4) == 0 {
		d := &p.Decls[m.draw.Intn(len(p.Decls))]
		switch m.draw.Intn(3) {
		case 0:
			d.Kind = m.draw.Intn(9) - 1
		case 1:
			d.Name = m.badName()
		default:
			d.N = m.draw.Intn(7) - 1
		}
		return
	}
	var list []*api.Stmt
	for _, block := range p.Threads {
		list = append(list, stmts(block)...)
	}
	if len(list) == 0 {
		p.Threads = append(p.Threads, make([][]api.Stmt, m.draw.Intn(5))...)
		return
	}
	m.bendStmt(list[m.draw.Intn(len(list))])
}

func (m *maker) badName() string { return m.pick("x y2 go label X 1 abcdefghijklm x_ lockx") }

func (m *maker) bendStmt(s *api.Stmt) {
	switch m.draw.Intn(8) {
	case 0:
		s.Kind = m.draw.Intn(13) - 1
	case 1:
		s.Name = m.badName()
	case 2:
		s.Other = m.badName()
	case 3:
		s.N = m.draw.Intn(13) - 1
	case 4:
		s.E = op(m.draw.Intn(12), m.grow(2), m.grow(2))
	case 5:
		s.E = api.Expr{}
	case 6:
		s.Body = []api.Stmt{{Kind: api.Repeat, N: 1, Body: s.Body}}
	default:
		s.Else = []api.Stmt{{Kind: api.Label, Name: "l"}}
	}
}

// TestManyBends: drawn programs that were bent: those that are still proper have a text, the others have none.
func TestManyBends(t *testing.T) {
	m := maker{draw: rand.New(rand.NewSource(66))}
	right, wrong := 0, 0
	for range 6000 {
		s := strings.Join(m.program(), " ")
		if len(s) > api.MaxText/4 {
			continue
		}
		p := read(t, s)
		for range 1 + m.draw.Intn(2) {
			m.bend(&p)
		}
		if !proper(p) {
			hasNone(t, fmt.Sprintf("%+v", p), p)
			wrong++
			continue
		}
		if s := text.Print(p); s == "" || !text.Right(p) || !tree.Same(read(t, s), p) {
			t.Errorf("6.1: Print(%+v): %q", p, s)
		}
		right++
	}
	if right < 500 || wrong < 2000 {
		t.Errorf("only %d right, %d wrong", right, wrong)
	}
}

// roomy is list with something in its spare room, and each list within it likewise.
func roomy(v reflect.Value) reflect.Value {
	switch v.Kind() {
	case reflect.Slice:
		list := reflect.MakeSlice(v.Type(), v.Len()+2, v.Len()+2)
		for k := range v.Len() {
			list.Index(k).Set(roomy(v.Index(k)))
		}
		for k := v.Len(); k < list.Len(); k++ {
			mark(list.Index(k))
		}
		return list.Slice(0, v.Len())
	case reflect.Struct:
		own := reflect.New(v.Type()).Elem()
		for k := range v.NumField() {
			own.Field(k).Set(roomy(v.Field(k)))
		}
		return own
	}
	return v
}

// mark fills in what tells spare room from a zero value.
func mark(v reflect.Value) {
	if v.Kind() == reflect.Struct {
		v.FieldByName("Kind").SetInt(77)
		v.FieldByName("Name").SetString("spare")
	}
}

// shown is all that v holds, the spare room of its lists included.
func shown(v reflect.Value) string {
	switch v.Kind() {
	case reflect.Slice:
		s := fmt.Sprintf("%d/%d[", v.Len(), v.Cap())
		for k := range v.Cap() {
			s += shown(v.Slice(0, v.Cap()).Index(k)) + " "
		}
		return s + "]"
	case reflect.Struct:
		s := "{"
		for k := range v.NumField() {
			s += shown(v.Field(k)) + " "
		}
		return s + "}"
	}
	return fmt.Sprint(v.Interface())
}

// TestHandedIn: the program that is handed in is as it was, spare room included, if it has a text and if it has none.
func TestHandedIn(t *testing.T) {
	m := maker{draw: rand.New(rand.NewSource(666))}
	for range 60 {
		s := strings.Join(m.program(), " ")
		if len(s) > api.MaxText {
			continue
		}
		p := roomy(reflect.ValueOf(read(t, s))).Interface().(api.Prog)
		for range 2 {
			was := shown(reflect.ValueOf(p))
			text.Print(p)
			text.Right(p)
			if shown(reflect.ValueOf(p)) != was {
				t.Errorf("R2: Print of %q: the program is another one", s)
			}
			m.bend(&p)
		}
	}
}

// TestSameAgain: the same program tells the same, whatever was printed between, and whatever its lists' spare room is.
func TestSameAgain(t *testing.T) {
	m := maker{draw: rand.New(rand.NewSource(6666))}
	for range 50 {
		s := strings.Join(m.program(), " ")
		if len(s) > api.MaxText {
			continue
		}
		p := read(t, s)
		one := text.Print(p)
		text.Print(api.Prog{})
		text.Print(thread(assign("x", num(1)), api.Stmt{Kind: api.If}))
		if two := text.Print(roomy(reflect.ValueOf(p)).Interface().(api.Prog)); one != two || text.Print(tree.Copy(p)) != one {
			t.Errorf("R4: Print of %q: %q, then %q", s, one, two)
		}
	}
}
