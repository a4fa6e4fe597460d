package parse_test

import (
	"fmt"
	"math"
	"math/rand"
	"reflect"
	"slices"
	"strconv"
	"strings"
	"testing"

	"suture/api"
	"suture/expr"
	"suture/lex"
	"suture/parse"
	"suture/place"
	"suture/tree"
)

const keywords = "var wide atomic local mutex chan go lock unlock send recv print if else repeat goto label"

const signs = "== = < + - * / % ( ) { }"

func num(n int) api.Expr { return api.Expr{Kind: api.Number, N: n} }

func name(s string) api.Expr { return api.Expr{Kind: api.Name, Name: s} }

func op(kind int, parts ...api.Expr) api.Expr { return api.Expr{Kind: kind, Of: parts} }

func assign(to string, e api.Expr) api.Stmt { return api.Stmt{Kind: api.Assign, Name: to, E: e} }

// thread is a program without declarations, and with one thread.
func thread(list ...api.Stmt) api.Prog { return api.Prog{Threads: [][]api.Stmt{list}} }

// marked is s without its marks, each an @, and the places of what they stand ahead of. No token begins with one.
func marked(s string) (string, []complex128) {
	parts := strings.Split(s, "@")
	s = strings.Join(parts, "")
	var at []complex128
	n := 0
	for _, part := range parts[:len(parts)-1] {
		n += len(part)
		at = append(at, place.Of(s, n))
	}
	return s, at
}

// places is where the declarations and statements of p begin, in the order of the text.
func places(p api.Prog) []complex128 {
	var list []complex128
	for _, d := range p.Decls {
		list = append(list, d.At)
	}
	for _, s := range tree.List(p) {
		list = append(list, s.At)
	}
	return list
}

// is holds what Read tells of s against want, and the places against the marks in s: one ahead of each declaration and
// statement.
func is(t *testing.T, s string, want api.Prog) {
	t.Helper()
	s, at := marked(s)
	isAt(t, s, want, at)
}

func isAt(t *testing.T, s string, want api.Prog, at []complex128) {
	t.Helper()
	p, fault, e := parse.Read(s)
	if e != api.OK || fault != 0 || !tree.Same(p, want) {
		t.Errorf("5.1: Read(%.200q): %+v, %v, %d, not %+v", s, p, fault, e, want)
	} else if !slices.Equal(places(p), at) {
		t.Errorf("5.1: Read(%.200q): places %v, not %v", s, places(p), at)
	}
}

// isNone holds what Read tells of s, which is no program, against the one mark in s: ahead of what can't stand there.
func isNone(t *testing.T, s string) {
	t.Helper()
	s, at := marked(s)
	if len(at) != 1 {
		t.Fatalf("%d marks in %q", len(at), s)
	}
	noneAt(t, s, at[0])
}

func noneAt(t *testing.T, s string, at complex128) {
	t.Helper()
	p, got, e := parse.Read(s)
	if e != api.ErrForm || got != at {
		t.Errorf("5.1: Read(%.200q): %v, %d, not at %v", s, got, e, at)
	}
	if !reflect.DeepEqual(p, api.Prog{}) {
		t.Errorf("R3: Read(%.200q): %+v beside an error", s, p)
	}
}

// good holds that s is read.
func good(t *testing.T, s string) api.Prog {
	t.Helper()
	p, at, e := parse.Read(s)
	if e != api.OK || at != 0 {
		t.Errorf("5.1: Read(%.200q): %v, %d", s, at, e)
	}
	return p
}

// TestExample: chapter 5's example.
func TestExample(t *testing.T) {
	want := api.Prog{Decls: []api.Decl{{Kind: api.Var, Name: "x"}}, Threads: [][]api.Stmt{{assign("x", num(1))}}}
	isAt(t, "var x go{x=1}", want, []complex128{1 + 1i, 1 + 10i})
}

// TestOrdinary: a program with a bit of everything.
func TestOrdinary(t *testing.T) {
	is(t, `# two that count
@var n    # of both
@local i @mutex m
@chan done 2

go {
	@repeat 3 {
		@lock m
		@n = n + 1
		@unlock m
	}
	@send done 1
}
go {
	@recv done i
	@if i == 1 {
		@goto out
	} else {
		@print -n @n = 0
	}
	@label out
}
`, api.Prog{
		Decls: []api.Decl{{Kind: api.Var, Name: "n"}, {Kind: api.Local, Name: "i"}, {Kind: api.Mutex, Name: "m"}, {Kind: api.Chan, Name: "done", N: 2}},
		Threads: [][]api.Stmt{
			{
				{Kind: api.Repeat, N: 3, Body: []api.Stmt{
					{Kind: api.Lock, Name: "m"}, assign("n", op(api.Add, name("n"), num(1))), {Kind: api.Unlock, Name: "m"}}},
				{Kind: api.Send, Name: "done", E: num(1)},
			}, {
				{Kind: api.Recv, Name: "done", Other: "i"},
				{Kind: api.If, E: op(api.Equal, name("i"), num(1)), Body: []api.Stmt{{Kind: api.Goto, Name: "out"}},
					Else: []api.Stmt{{Kind: api.Print, E: op(api.Minus, name("n"))}, assign("n", num(0))}},
				{Kind: api.Label, Name: "out"},
			},
		},
	})
}

// kinds is the declarations without a number, by their words.
func kinds() map[string]int {
	return map[string]int{"var": api.Var, "wide": api.Wide, "atomic": api.Atomic, "local": api.Local, "mutex": api.Mutex}
}

// TestDeclarations: each kind, with each field; what may not stand behind its word, and its name.
func TestDeclarations(t *testing.T) {
	for word, kind := range kinds() {
		want := api.Prog{Decls: []api.Decl{{Kind: kind, Name: "x"}}, Threads: [][]api.Stmt{nil}}
		is(t, "@"+word+" x go { }", want)
		is(t, "\n  @"+word+"\n\nx\ngo{}", want)
		want.Decls = append(want.Decls, api.Decl{Kind: api.Chan, Name: "c", N: 1}, api.Decl{Kind: kind, Name: "abcdefghijkl"})
		is(t, "@"+word+" x @chan c 1 @"+word+" abcdefghijkl go { }", want)
		isNone(t, word+" x @1 go { }")
		isNone(t, word+" x @x go { }")
		isNone(t, word+" x @= 1 go { }")
		isNone(t, word+" @1 go { }")
		isNone(t, word+" @- x go { }")
		isNone(t, word+" @go { }")
		isNone(t, word+" @"+word+" x go { }")
		isNone(t, word+"@")
		isNone(t, word+" x@")
		isNone(t, word+" x @{ }")
	}
	isNone(t, "@x go { }")
	isNone(t, "var a @b go { }")
	isNone(t, "@vars x go { }")
	isNone(t, "@1")
	isNone(t, "@{ }")
	isNone(t, "var x @print x go { }")
	isNone(t, "var x @x = 1 go { }")
}

// TestSameNames: what names are of is no matter of form: twice declared, or not at all, or of another kind.
func TestSameNames(t *testing.T) {
	is(t, "@var x @mutex x go { @lock y @x = x @goto x }", api.Prog{
		Decls:   []api.Decl{{Kind: api.Var, Name: "x"}, {Kind: api.Mutex, Name: "x"}},
		Threads: [][]api.Stmt{{{Kind: api.Lock, Name: "y"}, assign("x", name("x")), {Kind: api.Goto, Name: "x"}}},
	})
	is(t, "go { @label a @label a @unlock a }", thread(
		api.Stmt{Kind: api.Label, Name: "a"}, api.Stmt{Kind: api.Label, Name: "a"}, api.Stmt{Kind: api.Unlock, Name: "a"}))
}

// TestRoom: a channel's number, 0 to MaxRoom; one more, and what is none, can't stand there.
func TestRoom(t *testing.T) {
	for n := range api.MaxRoom + 1 {
		want := api.Prog{Decls: []api.Decl{{Kind: api.Chan, Name: "c", N: n}}, Threads: [][]api.Stmt{nil}}
		is(t, fmt.Sprintf("@chan c %d go { }", n), want)
		is(t, fmt.Sprintf("@chan c %dgo{}", n), want)
	}
	for _, bad := range []string{strconv.Itoa(api.MaxRoom + 1), "10", "2147483648", "9223372036854775807", "c", "-1", "(1)", "=", "go", "var"} {
		isNone(t, "chan c @"+bad+" go { }")
		isNone(t, "chan c 1 chan d\n@"+bad+" go { }")
	}
	isNone(t, "chan c@")
	isNone(t, "chan@")
	isNone(t, "chan @1 c go { }")
	isNone(t, "chan @go { }")
	isNone(t, "chan c 1 @+ 1 go { }")
	isNone(t, "chan c 1 @1 go { }")
}

// TestDecls: none, MaxDecls, and one more, whatever it is, right or wrong.
func TestDecls(t *testing.T) {
	is(t, "go { }", thread())
	var want api.Prog
	s := ""
	all := []string{"var", "wide", "atomic", "local", "mutex"}
	for k := range api.MaxDecls {
		word := all[k%len(all)]
		want.Decls = append(want.Decls, api.Decl{Kind: kinds()[word], Name: "a" + strconv.Itoa(k)})
		s += "@" + word + " a" + strconv.Itoa(k) + "\n"
	}
	want.Threads = [][]api.Stmt{nil}
	is(t, s+"go { }", want)
	full, _ := marked(s)
	for _, word := range append(all, "chan") {
		isNone(t, full+"@"+word+" x 1 go { }")
		isNone(t, full+"@"+word+" x go { }")
		isNone(t, full+"@"+word)
		isNone(t, full+"@"+word+" "+word+" ) 99")
	}
	isNone(t, strings.Repeat("chan c 3 ", api.MaxDecls)+"@chan c 3 go { }")
	isNone(t, strings.Repeat("var a ", api.MaxDecls)+"@"+strings.Repeat("var a ", api.MaxDecls)+"go { }")
	isNone(t, full+"@")
	isNone(t, strings.Repeat("var a ", api.MaxDecls-1)+"var @1 go { }")
}

// TestThreads: none, one, MaxThreads, and one more, right or wrong.
func TestThreads(t *testing.T) {
	var want api.Prog
	s := ""
	for n := 1; n <= api.MaxThreads; n++ {
		x := "x" + strconv.Itoa(n)
		want.Threads = append(want.Threads, []api.Stmt{assign(x, num(n))})
		s += " go { @" + x + " = " + strconv.Itoa(n) + " }"
		is(t, s, want)
		is(t, s+"\n# that is all\n", want)
	}
	full, _ := marked(s)
	for _, more := range []string{"go { }", "go", "go {", "go go", "go 1"} {
		isNone(t, full+" @"+more)
	}
	isNone(t, strings.Repeat("go { } ", api.MaxThreads)+"@go { } go { }")
	isNone(t, "@")
	isNone(t, "var x@")
	isNone(t, "chan c 3@")
	is(t, "go{}go{}go{}go{}", api.Prog{Threads: make([][]api.Stmt, api.MaxThreads)})
	is(t, "go{}go{@x=1}go{}", api.Prog{Threads: [][]api.Stmt{{}, {assign("x", num(1))}, {}}})
}

// TestBehind: what stands behind the last thread.
func TestBehind(t *testing.T) {
	for _, word := range strings.Fields(keywords + " x 1 " + signs) {
		if word != "go" {
			isNone(t, "go { } @"+word)
			isNone(t, "go { } @"+word+" x 1 go { }")
			isNone(t, "go { } go { x = 1 } # note\n @"+word+" { }")
			isNone(t, strings.Repeat("go { } ", api.MaxThreads)+"@"+word)
		}
	}
	is(t, "go { } # x = 1 }\n\t\n", thread())
}

// TestDeclarationBehind: a declaration behind a thread, or within one.
func TestDeclarationBehind(t *testing.T) {
	for _, word := range strings.Fields("var wide atomic local mutex chan") {
		isNone(t, "go { } @"+word+" x 1 go { }")
		isNone(t, "var x go { x = 1 } go { }\n@"+word+" x 1")
		isNone(t, "go { @"+word+" x 1 }")
		isNone(t, "go { x = 1 @"+word+" x }")
		isNone(t, "go { if x { @"+word+" x } }")
	}
}

// TestStatements: each kind, with each field that it has, and no other one; by itself, and with others around it.
func TestStatements(t *testing.T) {
	a, b := name("a"), name("b")
	sum := op(api.Add, a, op(api.Mul, b, num(2)))
	for s, want := range map[string]api.Stmt{
		"x = 1":            assign("x", num(1)),
		"x=a+b*2":          assign("x", sum),
		"lock m":           {Kind: api.Lock, Name: "m"},
		"unlock m":         {Kind: api.Unlock, Name: "m"},
		"send c 7":         {Kind: api.Send, Name: "c", E: num(7)},
		"send c a + b * 2": {Kind: api.Send, Name: "c", E: sum},
		"send c -a":        {Kind: api.Send, Name: "c", E: op(api.Minus, a)},
		"send c(a)":        {Kind: api.Send, Name: "c", E: a},
		"recv c x":         {Kind: api.Recv, Name: "c", Other: "x"},
		"recv x x":         {Kind: api.Recv, Name: "x", Other: "x"},
		"print 0":          {Kind: api.Print, E: num(0)},
		"print a + b * 2":  {Kind: api.Print, E: sum},
		"print(a==b)":      {Kind: api.Print, E: op(api.Equal, a, b)},
		"if a { }":         {Kind: api.If, E: a},
		"if(a<b){}":        {Kind: api.If, E: op(api.Less, a, b)},
		"repeat 5 { }":     {Kind: api.Repeat, N: 5},
		"goto l":           {Kind: api.Goto, Name: "l"},
		"label l":          {Kind: api.Label, Name: "l"},
	} {
		other := assign("y", num(2))
		is(t, "go{@"+s+"}", thread(want))
		is(t, "go {\n\t@"+s+"\n}", thread(want))
		is(t, "go { @y = 2 @"+s+" @y = 2 }", thread(other, want, other))
		is(t, "go { @"+s+" @"+s+"\n@"+s+" }", thread(want, want, want))
		is(t, "go { @repeat 2 { @"+s+" } }", thread(api.Stmt{Kind: api.Repeat, N: 2, Body: []api.Stmt{want}}))
		is(t, "go { @if 1 { @"+s+" } else { @y = 2 @"+s+" } }", thread(
			api.Stmt{Kind: api.If, E: num(1), Body: []api.Stmt{want}, Else: []api.Stmt{other, want}}))
		isNone(t, "go { "+s+"@")
		isNone(t, "go { "+s+" @)")
		isNone(t, "go { "+s+" } @}")
	}
}

// TestNext: all tokens that can't stand behind what is ahead, and all that can. A name is asked for where a keyword
// can't stand, and a keyword where a name can't.
func TestNext(t *testing.T) {
	const (
		program  = " var wide atomic local mutex chan go "
		block    = " x lock unlock send recv print if repeat goto label } "
		operand  = " x 1 - ( "
		operator = " == < + - * / % "
	)
	full := strings.Repeat("var x ", api.MaxDecls)
	threads := strings.Repeat("go { } ", api.MaxThreads)
	deep := "go { " + strings.Repeat("if 1 { ", api.MaxDepth-1)
	for ahead, may := range map[string]string{
		"": program, "var": "x", "wide": "x", "atomic": "x", "local": "x", "mutex": "x", "chan": "x",
		"var x": program, "wide x": program, "atomic x": program, "local x": program, "mutex x": program,
		"chan x": "1", "chan x 1": program, full: "go", full[6:]: program, full[6:] + "chan": "x",
		"go": "{", "go {": block, "go { }": "go .", "var x go { x = 1 } go { }": "go .", threads: ".", threads[7:]: "go .",
		"go { x": "=", "go { x =": operand, "go { x = 1": operator + block, "go { x = x": operator + block,
		"go { x = 1 +": operand, "go { x = 1 < 1": "+ - * / %" + block, "go { x = 1 == 1": "+ - * / %" + block,
		"go { x = (": operand, "go { x = ( 1": operator + ")", "go { x = ( 1 )": operator + block, "go { x = -": operand,
		"go { x = 1 x": "=", "go { x = 1 lock": "x",
		"go { lock": "x", "go { unlock": "x", "go { goto": "x", "go { label": "x",
		"go { lock x": block, "go { unlock x": block, "go { goto x": block, "go { label x": block,
		"go { send": "x", "go { send x": operand, "go { send x 1": operator + block,
		"go { recv": "x", "go { recv x": "x", "go { recv x x": block,
		"go { print": operand, "go { print 1": operator + block, "go { print 1 + 1": operator + block,
		"go { if": operand, "go { if 1": operator + "{", "go { if 1 {": block, "go { if 1 { }": "else" + block,
		"go { if 1 { } else": "{", "go { if 1 { } else {": block, "go { if 1 { } else { }": block,
		"go { if 1 { x = 1 }": "else" + block, "go { if 1 { lock x } else { lock x }": block,
		"go { repeat": "1", "go { repeat 1": "{", "go { repeat 1 {": block, "go { repeat 1 { }": block,
		deep: block, deep + "if 1": operator, deep + "if": operand, deep + "repeat": "1", deep + "repeat 1": ".none",
		deep + "}": "else" + block, deep + "} else": "{", deep + "} else {": block, deep + "} else { if 1": operator,
		deep + "} if 1": operator + "{", deep + "} else { }": block,
	} {
		for _, word := range strings.Fields(keywords + " x 1 . " + signs) {
			can := slices.Contains(strings.Fields(may), word)
			if word == "." {
				word = "" // the end
			}
			s := ahead + " " + word
			_, at, e := parse.Read(s)
			if here := place.Of(s, len(ahead)+1); (e == api.OK || at != here) != can {
				t.Errorf("5.1: Read(%q): %v, %d; can %q stand behind %q: %t", s, at, e, word, ahead, can)
			}
		}
	}
}

// TestNames: every name that IsName takes, wherever one is asked for; no keyword, but what begins as one does.
func TestNames(t *testing.T) {
	for _, word := range append(strings.Fields(keywords), "a", "z9", "abcdefghijkl") {
		x := word
		if lex.Keyword(word) {
			isNone(t, "var @"+word+" go { }")
			isNone(t, "chan @"+word+" 1 go { }")
			for _, s := range []string{"lock", "unlock", "goto", "label", "send", "recv", "recv c"} {
				isNone(t, "go { "+s+" @"+word+" 1 }")
			}
			isNone(t, "go { x = @"+word+" }")
			isNone(t, "go { x = 1 + @"+word+" }")
			x += "x"
		}
		is(t, "@var "+x+" @chan "+x+" 0 go{@"+x+"="+x+" @send "+x+" "+x+" @recv "+x+" "+x+" @goto "+x+" @label "+x+"}", api.Prog{
			Decls: []api.Decl{{Kind: api.Var, Name: x}, {Kind: api.Chan, Name: x}},
			Threads: [][]api.Stmt{{assign(x, name(x)), {Kind: api.Send, Name: x, E: name(x)}, {Kind: api.Recv, Name: x, Other: x},
				{Kind: api.Goto, Name: x}, {Kind: api.Label, Name: x}}},
		})
	}
}

// TestElse: an if with and without one; one without statements is as none, and has nothing of its own.
func TestElse(t *testing.T) {
	x, y := assign("x", num(1)), assign("y", num(2))
	cond := func(body, other []api.Stmt) api.Stmt {
		return api.Stmt{Kind: api.If, E: name("a"), Body: body, Else: other}
	}
	one, two := []api.Stmt{x}, []api.Stmt{x, y}
	is(t, "go { @if a { } }", thread(cond(nil, nil)))
	is(t, "go { @if a { } else { } }", thread(cond(nil, nil)))
	is(t, "go { @if a { @x = 1 } }", thread(cond(one, nil)))
	is(t, "go { @if a { @x = 1 } else { } }", thread(cond(one, nil)))
	is(t, "go { @if a { @x = 1 } else { } @y = 2 }", thread(cond(one, nil), y))
	is(t, "go { @if a { } else { @x = 1 } }", thread(cond(nil, one)))
	is(t, "go { @if a { @x = 1 @y = 2 } else { @x = 1 } }", thread(cond(two, one)))
	is(t, "go { @if a { @x = 1 } else { @x = 1 @y = 2 } @y = 2 }", thread(cond(one, two), y))
	is(t, "go { @if a { } @if a { } else { @x = 1 } }", thread(cond(nil, nil), cond(nil, one)))
	is(t, "go { @if a { @if a { } else { @x = 1 } } }", thread(cond([]api.Stmt{cond(nil, one)}, nil)))
	is(t, "go { @if a { @if a { } } else { @x = 1 } }", thread(cond([]api.Stmt{cond(nil, nil)}, one)))
	is(t, "go { @if a { } else { @if a { } else { @x = 1 } } }", thread(cond(nil, []api.Stmt{cond(nil, one)})))
	is(t, "go{@if a{@if a{@x=1}else{}}else{@if a{}else{}}}", thread(cond([]api.Stmt{cond(one, nil)}, []api.Stmt{cond(nil, nil)})))
	isNone(t, "go { if a { } else @if a { } }")
	isNone(t, "go { if a { } else { } @else { } }")
	isNone(t, "go { if a { } else @else { } }")
	isNone(t, "go { if a { } else @x = 1 }")
	isNone(t, "go { if a { } else @}")
	isNone(t, "go { if a @x = 1 }")
	isNone(t, "go { if a @}")
	isNone(t, "go { if a @else { } }")
	isNone(t, "go { if @{ } }")
	isNone(t, "go { repeat 1 { } @else { } }")
	isNone(t, "go { x = 1 @else { } }")
	isNone(t, "go { if a { } x = 1 @else { } }")
	isNone(t, "go { if a { @else { } }")
	isNone(t, "go { } @else { }")
}

// TestRepeat: a number 0 to MaxRepeat; one more, and what is none, can't stand there.
func TestRepeat(t *testing.T) {
	for n := range api.MaxRepeat + 1 {
		is(t, fmt.Sprintf("go { @repeat %d { } }", n), thread(api.Stmt{Kind: api.Repeat, N: n}))
		is(t, fmt.Sprintf("go{@repeat %d{@x=%d}}", n, n), thread(api.Stmt{Kind: api.Repeat, N: n, Body: []api.Stmt{assign("x", num(n))}}))
	}
	for _, bad := range []string{strconv.Itoa(api.MaxRepeat + 1), "90", "4294967296", "9223372036854775807", "x", "-1", "(1)", "{", "if"} {
		isNone(t, "go { repeat @"+bad+" { } }")
		isNone(t, "go { repeat 2 {\n repeat\n\t@"+bad+" { } } }")
	}
	isNone(t, "go { repeat 1 @+ 1 { } }")
	isNone(t, "go { repeat 1 @1 { } }")
	isNone(t, "go { repeat 1 @x = 1 }")
	isNone(t, "go { repeat 1 @}")
	isNone(t, "go { repeat @}")
	isNone(t, "go { repeat 1@")
	isNone(t, "go { repeat 1 {@")
}

// TestGreatNumbers: only a room and a repeat are bounded; in an expression, each number stands.
func TestGreatNumbers(t *testing.T) {
	is(t, "go { @x = 9223372036854775807 @print 10 @send c 4 }", thread(assign("x", num(math.MaxInt)),
		api.Stmt{Kind: api.Print, E: num(10)}, api.Stmt{Kind: api.Send, Name: "c", E: num(4)}))
	isNone(t, "go { x = @9223372036854775808 }")
	isNone(t, "chan c @9223372036854775808 go { }")
	isNone(t, "go { repeat @00 { } }")
}

// nest is a way in which a block stands within another one: what opens and shuts it, and the statements that are made of
// its own.
type nest struct {
	open, shut string
	around     func(list []api.Stmt) []api.Stmt
}

func nests() []nest {
	a := name("a")
	return []nest{
		{"@if a {", "}", func(l []api.Stmt) []api.Stmt { return []api.Stmt{{Kind: api.If, E: a, Body: l}} }},
		{"@if a { } else {", "}", func(l []api.Stmt) []api.Stmt { return []api.Stmt{{Kind: api.If, E: a, Else: l}} }},
		{"@repeat 1 {", "}", func(l []api.Stmt) []api.Stmt { return []api.Stmt{{Kind: api.Repeat, N: 1, Body: l}} }},
		{"@x = 1 @repeat 2 {", "} @x = 1", func(l []api.Stmt) []api.Stmt {
			x := assign("x", num(1))
			return []api.Stmt{x, {Kind: api.Repeat, N: 2, Body: l}, x}
		}},
	}
}

// markFirst is s with the first of its open braces marked, and no other mark.
func markFirst(s string) string {
	return strings.Replace(strings.ReplaceAll(s, "@", ""), "{", "@{", 1)
}

// TestDepth: blocks nested MaxDepth deep, and one deeper: by if, by else, by repeat, and by all of them in turn.
func TestDepth(t *testing.T) {
	all := nests()
	for _, step := range []int{0, 1} {
		for first := range all {
			open, shut := "", ""
			list := []api.Stmt{assign("y", num(0))}
			around := func(k int) nest { return all[(first+step*k)%len(all)] }
			for k := range api.MaxDepth - 1 {
				open += around(k).open
				shut = around(k).shut + shut
				list = around(api.MaxDepth - 2 - k).around(list)
			}
			is(t, "go {"+open+"@y = 0"+shut+"}", thread(list...))
			open, shut = strings.ReplaceAll(open, "@", ""), strings.ReplaceAll(shut, "@", "")
			for _, deeper := range all {
				isNone(t, "go {"+open+markFirst(deeper.open)+"}"+shut+"}")
				isNone(t, "go { } go {"+open+"y = 0 "+markFirst(deeper.open)+" y = 0 }"+shut+"}")
				isNone(t, "go {"+open+markFirst(deeper.open))
			}
		}
	}
}

// TestTooDeep: the block that is too deep is told where its { stands; what stands ahead of it there is told first.
func TestTooDeep(t *testing.T) {
	open := "go {" + strings.Repeat("if a {", api.MaxDepth-1)
	isNone(t, open+"if a + 1 @{ } }")
	isNone(t, open+"if a @} }")
	isNone(t, open+"if @{ } }")
	isNone(t, open+"if a @lock m")
	isNone(t, open+"if a@")
	isNone(t, open+"repeat 9 @{ } }")
	isNone(t, open+"repeat @10 { } }")
	isNone(t, open+"repeat 1 @1 { } }")
	isNone(t, open+"@{ } }")
	isNone(t, open+"@else { } }")
	isNone(t, open+"if a @{"+strings.Repeat("if a {", 20)+strings.Repeat("}", 21+api.MaxDepth))
	isNone(t, "go {"+strings.Repeat("repeat 1 {", api.MaxDepth-2)+"if a { } else { if a @{ } } }")
	isNone(t, "go {"+strings.Repeat("repeat 1 {", api.MaxDepth-2)+"if a { if a @{ } } else { } }")
}

// TestBlocksBeside: only what is within one another counts: a block that is closed does not, in this thread or another.
func TestBlocksBeside(t *testing.T) {
	deep := strings.Repeat("if a {", api.MaxDepth-1) + strings.Repeat("}", api.MaxDepth-1)
	other := strings.Repeat("if a { } else {", api.MaxDepth-1) + strings.Repeat("}", api.MaxDepth-1)
	good(t, "go {"+deep+deep+other+deep+other+"}")
	good(t, strings.Repeat("go {"+deep+deep+"} go {"+other+deep+"} ", api.MaxThreads/2))
	good(t, "go {"+strings.Repeat("if a { } else { } repeat 1 { } ", 100)+"}")
	half := strings.Repeat("if a {", api.MaxDepth-2) + "if a { } else { } repeat 1 { } if a { }" + strings.Repeat("} else { if a { } }", api.MaxDepth-2)
	good(t, "go {"+half+half+"}")
	isNone(t, "go {"+deep+"} go {"+deep+strings.Repeat("if a {", api.MaxDepth-1)+"if a @{ }")
	isNone(t, "go {"+deep+other+strings.Repeat("repeat 1 {", api.MaxDepth-1)+"repeat 1 @{ }")
}

// TestParentheses: those of an expression nest for themselves: blocks around it do not count, and it adds nothing.
func TestParentheses(t *testing.T) {
	open, shut := strings.Repeat("(", api.MaxDepth), strings.Repeat(")", api.MaxDepth)
	blocks, ends := "go {"+strings.Repeat("if "+open+"a"+shut+" {", api.MaxDepth-1), strings.Repeat("}", api.MaxDepth)
	good(t, blocks+"x = "+open+"1"+shut+ends)
	good(t, blocks+"print "+strings.Repeat("-", api.MaxDepth)+"1 send c "+open+"1"+shut+ends)
	isNone(t, blocks+"x = "+open+"@(1)"+shut+ends)
	isNone(t, "go { x = "+open+"@(1)"+shut+" }")
	isNone(t, "go { print "+strings.Repeat("-", api.MaxDepth)+"@-1 }")
	isNone(t, "go { if "+open+"@-1"+shut+" { } }")
	isNone(t, "go { send c "+strings.Repeat("-(", api.MaxDepth/2)+"@(1")
	isNone(t, "go { if "+open+"a"+shut+"@) { } }")
}

// TestExpressionEnds: where a statement, a block or the text ends, an expression does; it goes on as long as it can.
func TestExpressionEnds(t *testing.T) {
	a, b := name("a"), name("b")
	is(t, "go { @x = a @y = b }", thread(assign("x", a), assign("y", b)))
	is(t, "go { @x = 1@y = 2 }", thread(assign("x", num(1)), assign("y", num(2))))
	is(t, "go { @x = a - b @y = (a) @lock m }", thread(assign("x", op(api.Sub, a, b)), assign("y", a), api.Stmt{Kind: api.Lock, Name: "m"}))
	is(t, "go { @x = a\n- b }", thread(assign("x", op(api.Sub, a, b))))
	is(t, "go { @x = a # one\n + # two\n b }", thread(assign("x", op(api.Add, a, b))))
	is(t, "go { @print a @print b @print - a @if b{} @send a b @b = a }", thread(
		api.Stmt{Kind: api.Print, E: a}, api.Stmt{Kind: api.Print, E: b}, api.Stmt{Kind: api.Print, E: op(api.Minus, a)},
		api.Stmt{Kind: api.If, E: b}, api.Stmt{Kind: api.Send, Name: "a", E: b}, assign("b", a)))
	is(t, "go { @send a - b }", thread(api.Stmt{Kind: api.Send, Name: "a", E: op(api.Minus, b)}))
	for _, word := range []string{"x =", "print", "send c"} {
		good(t, "go { "+word+" a }")
		good(t, "go { "+word+" a == b }go{}")
		isNone(t, "go { "+word+" a@")
		isNone(t, "go { "+word+" (a)@")
		isNone(t, "go { "+word+" a @{ }")
		isNone(t, "go { "+word+" a @1 }")
		isNone(t, "go { "+word+" 1 @2 }")
		isNone(t, "go { "+word+" a @( b ) }")
		isNone(t, "go { "+word+" a @) }")
		isNone(t, "go { "+word+" a @else { } }")
		isNone(t, "go { "+word+" a @var b }")
		isNone(t, "go { "+word+" a b @}")
		isNone(t, "go { "+word+" a b @c = 1 }")
		isNone(t, "go { "+word+" a b@")
		isNone(t, "go { "+word+" a < b @< a }")
		isNone(t, "go { "+word+" a == b @== a }")
		isNone(t, "go { "+word+" a < b + 1 @== a }")
		isNone(t, "go { "+word+" a @= b }")
	}
	isNone(t, "go { if a@")
	isNone(t, "go { if a @b { } }")
	isNone(t, "go { if a @1 { } }")
	isNone(t, "go { if a < b @< a { } }")
	isNone(t, "go { if a @= b { } }")
	isNone(t, "go { if (a) @(b) { } }")
}

// TestExpressionCant: an expression that can't be read: the token that can't stand there, within it or behind it.
func TestExpressionCant(t *testing.T) {
	for _, word := range []string{"x =", "print", "send c", "if", "x = 1 y =", "if a { } else { } if"} {
		for _, s := range []string{
			"@", "@}", "@{ }", "@)", "@* 2", "@< a", "@= 1", "@== 1", "@lock m", "@if", "@else", "@go { }", "@var",
			"1 + @}", "a + @", "a - @* b", "a * @/ b", "a < @< b", "a == @= b", "a == @}", "a + @lock m", "a % @{ }",
			"- @}", "-@", "( @}", "(@", "( @)", "( a @}", "( a@", "( a @b )", "( a @{ }", "( a @lock m )", "( a + @) )",
			"( a < b @< c )", "( ( a ) @1", "- ( a @= b )", "a + ( b * @print )", "(\n\n a\n @goto )",
		} {
			isNone(t, "go { "+word+" "+s)
		}
	}
}

// TestForm: a text that Tokens does not take: its place, whatever else is wrong, ahead of it or behind it.
func TestForm(t *testing.T) {
	for _, bad := range []string{"?", "A", "00", "01", "9223372036854775808", "abcdefghijklm", "\x00", "\r", "_", "!", "\xff", ";", "."} {
		isNone(t, "@"+bad)
		isNone(t, "var @"+bad)
		isNone(t, "go { x = 1 } @"+bad)
		isNone(t, "go { x @"+bad+" }")
		isNone(t, "var x\ngo {\n\tx = 1 + @"+bad+"\n}\n")
		isNone(t, "go { x } @"+bad)
		isNone(t, "x x x = = } } 1 1\n @"+bad+" ?")
		isNone(t, strings.Repeat("go { } ", api.MaxThreads+1)+"@"+bad)
		isNone(t, strings.Repeat("var x ", api.MaxDecls+1)+"@"+bad)
		good(t, "go { } # "+bad)
	}
	isNone(t, "go { x = 1@\u00a0}")
	isNone(t, "@\ufeffgo { }")
}

// TestEmpty: a text without tokens: the end can't stand there.
func TestEmpty(t *testing.T) {
	for _, s := range []string{"@", " @", "\t\t@", "\n@", "\n\n  @", "# go { }@", "# go { }\n@", " # a\n # b @"} {
		isNone(t, s)
	}
	isNone(t, "go { x # note@")
	isNone(t, "go { x # note\n\n  @")
}

// TestLongest: a text of MaxText bytes, and one more: of the latter the place of byte MaxText, whatever is wrong in it.
func TestLongest(t *testing.T) {
	s := "go {\n" + strings.Repeat("x=1\n", (api.MaxText-6)/4)
	s += strings.Repeat(" ", api.MaxText-1-len(s)) + "}"
	if len(s) != api.MaxText {
		t.Fatalf("%d bytes", len(s))
	}
	p := good(t, s)
	list := p.Threads[0]
	if n := (api.MaxText - 6) / 4; len(list) != n || list[n-1].At != complex(float64(n+1), 1) {
		t.Errorf("5.1: %d statements of %d, the last at %v", len(list), n, list[len(list)-1].At)
	}
	noneAt(t, s+" ", place.Of(s, api.MaxText))
	noneAt(t, s+"\n", place.Of(s, api.MaxText))
	noneAt(t, "?"+s, place.Of("?"+s, api.MaxText))
	noneAt(t, strings.Repeat("\n", api.MaxText+7), complex(api.MaxText+1, 1))
	noneAt(t, strings.Repeat(" ", 1<<20), complex(1, api.MaxText+1))
	noneAt(t, strings.Repeat(" ", api.MaxText), complex(1, api.MaxText+1))
	noneAt(t, strings.Repeat("(", api.MaxText), 1+1i)

	long := "go{x=1" + strings.Repeat("+1", (api.MaxText-7)/2) + "}"
	if got := good(t, long).Threads[0][0].E; got.Kind != api.Add || !tree.SameExpr(got.Of[1], num(1)) {
		t.Error("5.1: a long sum")
	}
	noneAt(t, long[:len(long)-1], complex(1, float64(len(long))))
	noneAt(t, "go{x="+strings.Repeat("(", api.MaxText-5), complex(1, 6+api.MaxDepth))
	noneAt(t, "go{"+strings.Repeat("if a{", 1000), complex(1, float64(len("go{")+5*api.MaxDepth)))
}

// class is how the rows below name a token: x for a name, 1 for a number, a point for the end.
func class(t lex.Token) string {
	switch {
	case t.Kind == lex.End:
		return "."
	case t.Kind == lex.Number:
		return "1"
	case t.Kind == lex.Word && !lex.Keyword(t.Text):
		return "x"
	}
	return t.Text
}

// row is what a part of a program (a word in capitals) is made of, if it begins with a token of class c.
func row(part, c string) string {
	among := func(list string) bool { return slices.Contains(strings.Fields(list), c) }
	switch {
	case part == "PROGRAM":
		return "DECLS THREAD THREADS ."
	case part == "DECLS" && among("var wide atomic local mutex"):
		return "DECL " + c + " x DECLS"
	case part == "DECLS" && c == "chan":
		return "DECL chan x ROOM DECLS"
	case part == "THREADS" && c == "go":
		return "THREAD THREADS"
	case part == "BLOCK":
		return "DEEPER { STMTS } HIGHER"
	case part == "STMTS" && c == "x":
		return "x = EXPR STMTS"
	case part == "STMTS" && among("lock unlock goto label"):
		return c + " x STMTS"
	case part == "STMTS" && c == "send":
		return "send x EXPR STMTS"
	case part == "STMTS" && c == "recv":
		return "recv x x STMTS"
	case part == "STMTS" && c == "print":
		return "print EXPR STMTS"
	case part == "STMTS" && c == "if":
		return "if EXPR BLOCK ELSE STMTS"
	case part == "STMTS" && c == "repeat":
		return "repeat COUNT BLOCK STMTS"
	case part == "ELSE" && c == "else":
		return "else BLOCK"
	case part == "EXPR":
		return "SUM COMPARED"
	case part == "COMPARED" && among("< =="):
		return c + " SUM"
	case part == "SUM":
		return "TERM ADDED"
	case part == "ADDED" && among("+ -"):
		return c + " SUM"
	case part == "TERM":
		return "FACTOR MULTIPLIED"
	case part == "MULTIPLIED" && among("* / %"):
		return c + " TERM"
	case part == "FACTOR" && c == "-":
		return "INNER - FACTOR OUTER"
	case part == "FACTOR" && c == "(":
		return "INNER ( EXPR ) OUTER"
	case part == "FACTOR" && c == "1":
		return "1"
	case part == "FACTOR":
		return "x"
	}
	return ""
}

// first is the first token of l that can't stand there, told without descent: what must follow is kept in a list, and
// counts of what is open; false, if all of l is a program.
func first(l []lex.Token) (int, bool) {
	follow := []string{"PROGRAM"}
	at, decls, threads, blocks, inner := 0, 0, 0, 0, 0
	for len(follow) > 0 {
		part, c := follow[0], class(l[at])
		follow = follow[1:]
		cant, step := false, 0
		switch part {
		case "DECL":
			decls++
			cant = decls > api.MaxDecls
		case "THREAD":
			threads++
			cant = threads > api.MaxThreads
			follow = append([]string{"go", "BLOCK"}, follow...)
		case "DEEPER":
			blocks++
			cant = blocks > api.MaxDepth
		case "HIGHER":
			blocks--
		case "INNER":
			inner++
			cant = inner > api.MaxDepth
		case "OUTER":
			inner--
		case "ROOM":
			cant, step = c != "1" || l[at].N > api.MaxRoom, 1
		case "COUNT":
			cant, step = c != "1" || l[at].N > api.MaxRepeat, 1
		default:
			if 'A' <= part[0] && part[0] <= 'Z' {
				follow = append(strings.Fields(row(part, c)), follow...)
			} else {
				cant, step = part != c, 1
			}
		}
		if cant {
			return at, true
		}
		at += step
	}
	return 0, false
}

func tokens(t *testing.T, s string) []lex.Token {
	t.Helper()
	l, _, e := lex.Tokens(s)
	if e != api.OK {
		t.Fatalf("2.1: Tokens(%.200q): %d", s, e)
	}
	return l
}

// texts is the tokens of s, without the end.
func texts(t *testing.T, s string) []string {
	var list []string
	for _, token := range tokens(t, s) {
		list = append(list, token.Text)
	}
	return list[:len(list)-1]
}

// flat is the texts of p's tokens, with each expression as it is printed, and an else only where it has statements.
func flat(t *testing.T, p api.Prog) []string {
	var list []string
	for _, d := range p.Decls {
		list = append(list, strings.Fields("var wide atomic local mutex chan")[d.Kind-1], d.Name)
		if d.Kind == api.Chan {
			list = append(list, strconv.Itoa(d.N))
		}
	}
	for _, block := range p.Threads {
		list = append(append(list, "go"), flatBlock(t, block)...)
	}
	return list
}

func flatBlock(t *testing.T, block []api.Stmt) []string {
	list := []string{"{"}
	for _, s := range block {
		if s.Kind == api.Assign {
			list = append(list, s.Name, "=")
		} else {
			list = append(list, strings.Fields("lock unlock send recv print if repeat goto label")[s.Kind-2])
		}
		switch s.Kind {
		case api.Lock, api.Unlock, api.Send, api.Goto, api.Label:
			list = append(list, s.Name)
		case api.Recv:
			list = append(list, s.Name, s.Other)
		case api.Repeat:
			list = append(list, strconv.Itoa(s.N))
		}
		switch s.Kind {
		case api.Assign, api.Send, api.Print, api.If:
			list = append(list, texts(t, expr.Print(s.E))...)
		}
		switch s.Kind {
		case api.If, api.Repeat:
			list = append(list, flatBlock(t, s.Body)...)
		}
		if len(s.Else) > 0 {
			list = append(append(list, "else"), flatBlock(t, s.Else)...)
		}
	}
	return append(list, "}")
}

// held holds what Read tells of s against first: the program, if it is one.
func held(t *testing.T, s string) (api.Prog, bool) {
	t.Helper()
	l := tokens(t, s)
	p, at, e := parse.Read(s)
	k, cant := first(l)
	if cant && (e != api.ErrForm || at != l[k].At || !reflect.DeepEqual(p, api.Prog{})) {
		t.Fatalf("5.1: Read(%q): %+v, %v, %d, not at %v", s, p, at, e, l[k].At)
	}
	if !cant && (e != api.OK || at != 0) {
		t.Fatalf("5.1: Read(%q): %v, %d", s, at, e)
	}
	return p, !cant
}

// same is held of s, which has no needless parentheses; a program's tree, told flat, is held against s, too.
func same(t *testing.T, s string) bool {
	t.Helper()
	p, ok := held(t, s)
	if !ok {
		return false
	}
	want := strings.ReplaceAll(strings.Join(texts(t, s), " "), " else { }", "")
	if got := strings.Join(flat(t, p), " "); got != want {
		t.Fatalf("5.1: Read(%q): %q, not %q", s, got, want)
	}
	return true
}

// each calls do with all rows of up to n pieces behind ahead, blanks between.
func each(ahead string, pieces []string, n int, do func(s string)) {
	layer := []string{ahead}
	for range n {
		var longer []string
		for _, s := range layer {
			for _, p := range pieces {
				longer = append(longer, s+" "+p)
			}
		}
		for _, s := range longer {
			do(s)
		}
		layer = longer
	}
}

// TestAllTexts: all short rows of tokens, by themselves and behind some beginnings.
func TestAllTexts(t *testing.T) {
	read := 0
	do := func(s string) {
		if same(t, s) {
			read++
		}
	}
	all := strings.Fields(keywords + " x 1 " + signs)
	each("", all, 3, do)
	each("go {", all, 3, do)
	each("go { if x { x = 1 }", all, 3, do)
	each("", strings.Fields("var chan x 3 4 go { }"), 5, do)
	each("go {", strings.Fields("x = 1 < go { }"), 5, do)
	each("go {", []string{"x = 1", "if x {", "else {", "}", "repeat 9 {", "} go {"}, 6, do)
	each("go { if x { repeat 1 {", []string{"}", "else {", "x = 1 }", "if x { }", "} else { }"}, 6, do)
	if read < 600 {
		t.Errorf("only %d programs", read)
	}
}

// maker draws a program by a fixed rule: its tree, its tokens' texts, and which of them begin a declaration or a
// statement.
type maker struct {
	draw   *rand.Rand
	words  []string
	begins []int
}

func (m *maker) add(words ...string) { m.words = append(m.words, words...) }

func (m *maker) begin() { m.begins = append(m.begins, len(m.words)) }

func (m *maker) name() string {
	s := []string{"x", "y", "m", "abcdefghijkl", "go1", "iff", "z0"}[m.draw.Intn(7)]
	m.add(s)
	return s
}

func (m *maker) number(most int) int {
	n := m.draw.Intn(most + 1)
	m.add(strconv.Itoa(n))
	return n
}

func (m *maker) grow(deep int) api.Expr {
	switch kind := m.draw.Intn(12); {
	case deep == 0 || kind < 2:
		return num(m.draw.Intn(1000))
	case kind < 4:
		return name([]string{"x", "y", "lock1"}[m.draw.Intn(3)])
	case kind == 4:
		return op(api.Minus, m.grow(deep-1))
	default:
		return op(api.Add+kind-5, m.grow(deep-1), m.grow(deep-1))
	}
}

// expression writes one, now and then with more parentheses than it needs.
func (m *maker) expression(t *testing.T) api.Expr {
	e := m.grow(m.draw.Intn(4))
	list := texts(t, expr.Print(e))
	for m.draw.Intn(5) == 0 {
		list = append(append([]string{"("}, list...), ")")
	}
	m.add(list...)
	return e
}

func (m *maker) block(t *testing.T, deep int) []api.Stmt {
	var list []api.Stmt
	m.add("{")
	for m.draw.Intn(4) > 0 {
		list = append(list, m.statement(t, deep))
	}
	m.add("}")
	return list
}

func (m *maker) statement(t *testing.T, deep int) api.Stmt {
	s := api.Stmt{Kind: api.Assign + m.draw.Intn(10)}
	if deep == api.MaxDepth && (s.Kind == api.If || s.Kind == api.Repeat) {
		s.Kind = api.Print
	}
	m.begin()
	if s.Kind != api.Assign {
		m.add(strings.Fields("lock unlock send recv print if repeat goto label")[s.Kind-2])
	}
	switch s.Kind {
	case api.Assign:
		s.Name = m.name()
		m.add("=")
		s.E = m.expression(t)
	case api.Send:
		s.Name, s.E = m.name(), m.expression(t)
	case api.Recv:
		s.Name = m.name()
		s.Other = m.name()
	case api.Print:
		s.E = m.expression(t)
	case api.If:
		s.E = m.expression(t)
		s.Body = m.block(t, deep+1)
		if m.draw.Intn(2) == 0 {
			m.add("else")
			s.Else = m.block(t, deep+1)
		}
	case api.Repeat:
		s.N = m.number(api.MaxRepeat)
		s.Body = m.block(t, deep+1)
	default:
		s.Name = m.name()
	}
	return s
}

func (m *maker) program(t *testing.T) api.Prog {
	var p api.Prog
	m.words, m.begins = nil, nil
	for range m.draw.Intn(api.MaxDecls + 1) {
		d := api.Decl{Kind: api.Var + m.draw.Intn(6)}
		m.begin()
		m.add(strings.Fields("var wide atomic local mutex chan")[d.Kind-1])
		d.Name = m.name()
		if d.Kind == api.Chan {
			d.N = m.number(api.MaxRoom)
		}
		p.Decls = append(p.Decls, d)
	}
	for range 1 + m.draw.Intn(api.MaxThreads) {
		m.add("go")
		p.Threads = append(p.Threads, m.block(t, 1))
	}
	return p
}

// joins tells if two texts, with nothing between, are not the two tokens that they are apart.
func joins(a, b string) bool {
	end, start := a[len(a)-1], b[0]
	inWord := func(c byte) bool { return 'a' <= c && c <= 'z' || '0' <= c && c <= '9' }
	return inWord(end) && inWord(start) || end == '=' && start == '='
}

// lay is words as one text, with gaps between that are drawn, and where each word begins.
func (m *maker) lay(words []string) (string, []int) {
	gaps := []string{"", "", "", " ", " ", "\t", "\n", "\n\n", " # go { }\n", "#\n\t"}
	var b strings.Builder
	var from []int
	b.WriteString(gaps[m.draw.Intn(len(gaps))])
	for k, word := range words {
		gap := gaps[m.draw.Intn(len(gaps))]
		if k > 0 && gap == "" && joins(words[k-1], word) {
			gap = " "
		}
		b.WriteString(gap)
		from = append(from, b.Len())
		b.WriteString(word)
	}
	b.WriteString(gaps[m.draw.Intn(len(gaps))])
	return b.String(), from
}

// TestManyPrograms: drawn programs, with notes, blanks and lines between all of it: their trees, and where each
// declaration and statement begins.
func TestManyPrograms(t *testing.T) {
	m := maker{draw: rand.New(rand.NewSource(5))}
	read := 0
	for range 4000 {
		want := m.program(t)
		s, from := m.lay(m.words)
		if len(s) > api.MaxText {
			noneAt(t, s, place.Of(s, api.MaxText))
			continue
		}
		var at []complex128
		for _, k := range m.begins {
			at = append(at, place.Of(s, from[k]))
		}
		isAt(t, s, want, at)
		read++
	}
	if read < 3000 {
		t.Errorf("only %d programs", read)
	}
}

// bend is words with one of them lost, another one added, or one instead of it.
func (m *maker) bend(words []string) []string {
	pieces := strings.Fields(keywords + " x 1 10 " + signs)
	piece := pieces[m.draw.Intn(len(pieces))]
	at := m.draw.Intn(len(words))
	list := slices.Clone(words)
	switch m.draw.Intn(4) {
	case 0:
		return slices.Delete(list, at, at+1)
	case 1:
		return slices.Insert(list, at, piece)
	case 2:
		return slices.Insert(list, at, words[m.draw.Intn(len(words))])
	}
	list[at] = piece
	return list
}

// TestManyFaults: drawn programs that were bent, once or twice: the token that can't stand there, if there is one.
func TestManyFaults(t *testing.T) {
	m := maker{draw: rand.New(rand.NewSource(55))}
	faults, read := 0, 0
	for range 4000 {
		m.program(t)
		words := m.bend(m.words)
		if m.draw.Intn(2) == 0 && len(words) > 0 {
			words = m.bend(words)
		}
		s, from := m.lay(words)
		if len(s) > api.MaxText {
			continue
		}
		if _, ok := held(t, s); ok {
			read++
			continue
		}
		faults++
		k, _ := first(tokens(t, s))
		noneAt(t, s, place.Of(s, append(from, len(s))[k]))
	}
	if faults < 3000 || read < 50 {
		t.Errorf("only %d faults, %d programs", faults, read)
	}
}

// TestBrokenOff: a program, broken off behind each of its tokens, is none: the end can't stand there, unless a thread has
// just ended.
func TestBrokenOff(t *testing.T) {
	m := maker{draw: rand.New(rand.NewSource(555))}
	for range 60 {
		m.program(t)
		deep := 0
		for k, word := range m.words {
			s := strings.Join(m.words[:k+1], " ")
			switch word {
			case "{":
				deep++
			case "}":
				deep--
			}
			if word == "}" && deep == 0 {
				good(t, s)
			} else {
				isNone(t, s+" @")
			}
		}
	}
}

// lists is where the memory of each list within v begins and ends, spare room included.
func lists(v reflect.Value) [][2]uintptr {
	var spans [][2]uintptr
	switch v.Kind() {
	case reflect.Slice:
		if v.Cap() > 0 {
			spans = append(spans, [2]uintptr{v.Pointer(), v.Pointer() + uintptr(v.Cap())*v.Type().Elem().Size()})
		}
		for k := range v.Len() {
			spans = append(spans, lists(v.Index(k))...)
		}
	case reflect.Struct:
		for k := range v.NumField() {
			spans = append(spans, lists(v.Field(k))...)
		}
	}
	return spans
}

// TestMemory: no two lists of an answer, or of two answers, share memory, spare room included; what is done with an
// answer is not seen in the next one.
func TestMemory(t *testing.T) {
	const s = "var x chan c 2 mutex m go { x = 1 + 2 * -x if x { lock m unlock m print x } else { x = 3 repeat 2 { x = x } } if x { } else { } } go { x = 1 } go { }"
	one, two := good(t, s), good(t, s)
	spans := lists(reflect.ValueOf([]api.Prog{one, two}))
	slices.SortFunc(spans, func(a, b [2]uintptr) int { return int(int64(a[0]) - int64(b[0])) })
	for k := 1; k < len(spans); k++ {
		if spans[k][0] < spans[k-1][1] {
			t.Error("R2: two lists share memory")
		}
	}
	for k := range one.Decls {
		one.Decls[k] = api.Decl{}
	}
	for k, block := range one.Threads {
		for j := range block[:cap(block)] {
			block[:cap(block)][j] = api.Stmt{Kind: api.Goto}
		}
		one.Threads[k] = nil
	}
	if three := good(t, s); !reflect.DeepEqual(two, three) {
		t.Errorf("R2: %+v, then %+v", two, three)
	}
}

// TestSameAgain: the same text tells the same, whatever was read between.
func TestSameAgain(t *testing.T) {
	m := maker{draw: rand.New(rand.NewSource(5555))}
	for range 50 {
		m.program(t)
		s, _ := m.lay(m.words)
		bad, _ := m.lay(m.bend(m.words))
		p, at, e := parse.Read(s)
		parse.Read(bad)
		parse.Read("go {" + strings.Repeat("if a {", 20))
		if p2, at2, e2 := parse.Read(s); e != e2 || at != at2 || !reflect.DeepEqual(p, p2) {
			t.Errorf("R4: Read(%q): %+v, then %+v", s, p, p2)
		}
	}
}
