package names_test

import (
	"fmt"
	"math"
	"math/rand"
	"reflect"
	"slices"
	"strconv"
	"strings"
	"testing"

	"suture/api"
	"suture/names"
	"suture/parse"
	"suture/place"
	"suture/tree"
)

// one has one declaration of each kind, named by its first letter.
const one = "var v wide w atomic a local l mutex m chan c 1\n"

func num(n int) api.Expr { return api.Expr{Kind: api.Number, N: n} }

func name(s string) api.Expr { return api.Expr{Kind: api.Name, Name: s} }

func op(kind int, parts ...api.Expr) api.Expr { return api.Expr{Kind: kind, Of: parts} }

// thread is a program of one declaration of each kind, and one thread.
func thread(list ...api.Stmt) api.Prog {
	return api.Prog{Decls: kinds(), Threads: [][]api.Stmt{list}}
}

// kinds is one declaration of each kind, named as in one.
func kinds() []api.Decl {
	return []api.Decl{
		{Kind: api.Var, Name: "v"}, {Kind: api.Wide, Name: "w"}, {Kind: api.Atomic, Name: "a"},
		{Kind: api.Local, Name: "l"}, {Kind: api.Mutex, Name: "m"}, {Kind: api.Chan, Name: "c", N: 1},
	}
}

func read(t *testing.T, s string) api.Prog {
	t.Helper()
	p, at, e := parse.Read(s)
	if e != api.OK {
		t.Fatalf("5.1: Read(%q): %v, %d", s, at, e)
	}
	return p
}

// answers holds Check, of p, against want.
func answers(t *testing.T, what string, p api.Prog, at complex128, e api.Errno) {
	t.Helper()
	if got, fault := names.Check(p); got != at || fault != e {
		t.Errorf("8.1: Check(%.300s): %v, %d, not %v, %d", what, got, fault, at, e)
	}
}

// passes holds that all names of the text are right, whatever @ is in it.
func passes(t *testing.T, s string) {
	t.Helper()
	s = strings.ReplaceAll(s, "@", "")
	answers(t, s, read(t, s), 0, api.OK)
}

// refuses holds that what is told of the text is what stands behind its only @.
func refuses(t *testing.T, s string) {
	t.Helper()
	if strings.Count(s, "@") != 1 {
		t.Fatalf("%q has not one @", s)
	}
	at := strings.Index(s, "@")
	s = s[:at] + s[at+1:]
	answers(t, s, read(t, s), place.Of(s, at), api.ErrName)
}

// TestExample: chapter 8's example.
func TestExample(t *testing.T) {
	answers(t, "go{x=1}", read(t, "go{x=1}"), 1+4i, api.ErrName)
	refuses(t, "go{@x=1}")
}

// TestFind: each name of a program, and names that it has not.
func TestFind(t *testing.T) {
	for _, c := range []struct {
		text string
		want map[string]int
	}{
		{one + "go { }", map[string]int{"v": 0, "w": 1, "a": 2, "l": 3, "m": 4, "c": 5, "x": -1, "": -1, "V": -1, "vw": -1, "var": -1, "1": -1, " v": -1}},
		{"var b go { }", map[string]int{"b": 0, "a": -1, "c": -1, "bb": -1, "": -1}},
		{"var ab var abc var a go { }", map[string]int{"a": 2, "ab": 0, "abc": 1, "abcd": -1, "b": -1, "bc": -1}},
		// twice, three times, of other kinds
		{"var a wide b var a go { }", map[string]int{"a": 0, "b": 1}},
		{"mutex b var a chan a 1 go { }", map[string]int{"a": 1, "b": 0}},
		{"var b mutex a wide a local a go { }", map[string]int{"a": 1, "b": 0}},
		{"var a var a var a var b var b go { }", map[string]int{"a": 0, "b": 3}},
		// no declarations; names that stand in statements alone
		{"go { }", map[string]int{"a": -1, "": -1, "x": -1}},
		{"go { x = y lock m label top }", map[string]int{"x": -1, "y": -1, "m": -1, "top": -1}},
		{"var y go { x = y recv c x }", map[string]int{"x": -1, "y": 0, "c": -1}},
	} {
		p := read(t, c.text)
		for s, want := range c.want {
			if got := names.Find(p, s); got != want {
				t.Errorf("8.1: Find(%q, %q): %d, not %d", c.text, s, got, want)
			}
		}
	}
}

// TestFindMost: as many declarations as a program has, and many more.
func TestFindMost(t *testing.T) {
	for _, n := range []int{api.MaxDecls, 1000} {
		var p api.Prog
		for k := range n {
			p.Decls = append(p.Decls, api.Decl{Kind: 1 + k%6, Name: "n" + strconv.Itoa(k)})
		}
		for k := range n {
			if got := names.Find(p, "n"+strconv.Itoa(k)); got != k {
				t.Errorf("8.1: Find of declaration %d: %d", k, got)
			}
		}
		if got := names.Find(p, "n"+strconv.Itoa(n)); got != -1 {
			t.Errorf("8.1: Find, of none of %d: %d", n, got)
		}
	}
}

// TestFindOther: names and kinds that no text has are found as they stand; what is behind a list's length is not there.
func TestFindOther(t *testing.T) {
	list := []api.Decl{{Name: "A b"}, {Kind: -3, Name: ""}, {Kind: 99, Name: "\xff"}, {Name: ""}, {Kind: api.Var, Name: "behind"}}
	p := api.Prog{Decls: list[:4]}
	for s, want := range map[string]int{"A b": 0, "": 1, "\xff": 2, "\xfe": -1, "A": -1, "behind": -1} {
		if got := names.Find(p, s); got != want {
			t.Errorf("8.1: Find(%q): %d, not %d", s, got, want)
		}
	}
	if got := names.Find(api.Prog{}, ""); got != -1 {
		t.Errorf("8.1: Find in the empty program: %d", got)
	}
}

// TestShared: var, wide and atomic, and no other number.
func TestShared(t *testing.T) {
	for _, kind := range []int{api.Var, api.Wide, api.Atomic} {
		if !names.Shared(kind) {
			t.Errorf("8.1: Shared(%d): false", kind)
		}
	}
	for _, kind := range []int{api.Local, api.Mutex, api.Chan} {
		if names.Shared(kind) {
			t.Errorf("8.1: Shared(%d): true", kind)
		}
	}
	for kind := -300; kind <= 300; kind++ {
		if (kind < api.Var || kind > api.Chan) && names.Shared(kind) {
			t.Errorf("8.1: Shared(%d): true", kind)
		}
	}
	for _, kind := range []int{math.MinInt, math.MaxInt, 1 << 32, 1<<32 + api.Var, -api.Var, math.MinInt + api.Wide} {
		if names.Shared(kind) {
			t.Errorf("8.1: Shared(%d): true", kind)
		}
	}
}

// TestRight: programs whose names are right, with each kind of statement.
func TestRight(t *testing.T) {
	for _, s := range []string{
		"go { }", "go { } go { } go { } go { }", "go { print 1 + -(2 * 3) }", "go { if 1 { } else { print 2 } repeat 0 { } }",
		one + "go { }",
		one + "go { v = v w = w a = a l = l v = w + a * l - v / w % a }",
		one + "go { v = w < a l = w == a a = -(v + (l)) }",
		one + "go { lock m v = 1 unlock m unlock m lock m }",
		one + "go { send c 1 send c v send c w + a send c -l recv c v recv c w recv c a recv c l }",
		one + "go { print v print w + a print -(l) if v { } if w == l { } else { } }",
		one + "go { repeat 9 { v = v + 1 lock m if a { unlock m } else { send c l } } }",
		one + "go { v = 1 } go { recv c v } go { lock m } go { print l }",
		// names of one program are none of another's
		"var m mutex c chan v 0 go { m = m lock c send v m recv v m }",
		"local go1 go { go1 = go1 print go1 }",
		"var lockx var varx mutex gox chan sendx 3 go { lockx = varx lock gox send sendx lockx }",
		// declarations that nothing names
		"var x mutex y chan z 2 go { print 0 }",
	} {
		passes(t, s)
	}
}

// TestLabels: the names of labels and gotos need no declaration, and may be those of anything; they declare nothing.
func TestLabels(t *testing.T) {
	for _, s := range []string{
		"go { label x goto x }", "go { goto x }", "go { goto x goto y label y label y } go { goto x }",
		one + "go { goto v goto w goto a goto l goto m goto c label v label w label a label l label m label c }",
		one + "go { if v { goto zz } repeat 2 { label zz } label zz v = 1 }",
	} {
		passes(t, s)
	}
	for _, s := range []string{
		"go { label x @x = 1 }", "go { goto x @print x label x }", one + "go { label n @lock n }",
		one + "go { goto n label n @send n 1 }", one + "go { label n @recv n v }", one + "go { label n @recv c n }",
	} {
		refuses(t, s)
	}
}

// slot is a statement, the place of a name in it (told as $), and whether it must name a variable, a mutex or a channel.
type slot struct{ text, names string }

const (
	variable = "vwal"
	mutex    = "m"
	channel  = "c"
)

// operands is expressions with one name, on each side of each operator, within parentheses and minuses.
func operands() []string {
	list := []string{"$", "($)", "-$", "-(-($))", "(v + ($ * 2)) % 3", "1 + 2 + $ + 4", "v * w * $", "(v < w) == (1 + -(l - $))"}
	for _, sign := range strings.Fields("+ - * / % < ==") {
		for _, e := range []string{"$ % 1", "1 % $", "v % $", "$ % v", "($ % 1)", "(1 % $)", "-($ % w)", "2 * (v % (3 % $))", "((($ % l)) % a)"} {
			list = append(list, strings.ReplaceAll(e, "%", sign))
		}
	}
	// only one comparison stands in a row
	return slices.DeleteFunc(list, func(e string) bool {
		_, _, fault := parse.Read("go { print " + strings.ReplaceAll(e, "$", "x") + " }")
		return fault != api.OK
	})
}

// slots is each kind of statement with each of its names, one by one.
func slots() []slot {
	list := []slot{
		{"@$ = 1", variable}, {"@$ = v", variable}, {"@recv c $", variable},
		{"@lock $", mutex}, {"@unlock $", mutex},
		{"@send $ 1", channel}, {"@send $ v + l", channel}, {"@recv $ v", channel}, {"@recv $ l", channel},
	}
	for _, e := range operands() {
		for _, s := range []string{"@v = ", "@l = ", "@send c ", "@print "} {
			list = append(list, slot{s + e, variable})
		}
		list = append(list, slot{"@if " + e + " { v = 1 }", variable}, slot{"@if " + e + " { } else { lock m }", variable})
	}
	return list
}

// around is texts in which a statement (told as $) stands, all else in them right.
func around() []string {
	deep := strings.Repeat("if v { l = 1 ", api.MaxDepth-2) + "\n\t$ " + strings.Repeat("} ", api.MaxDepth-2)
	elses := strings.Repeat("repeat 1 { print l if 1 { a = 2 } else {", 3) + "\n$ v = w " + strings.Repeat("} label x } ", 3)
	return []string{
		"go{$}", "go { v = 1 lock m\n\n $\n send c v }",
		"go { if v { $ } }", "go { if v { $ } else { a = 1 } }", "go { if v { a = 1 } else { $ } }", "go { if v { } else { w = 1 $ w = 2 } }",
		"go { repeat 3 { $ } }", "go { repeat 0 {\n$ } }",
		"go {" + deep + "}", "go {" + elses + "}",
		"go { } go { $ }", "go { v = 1 } go { if w { lock m } } go { goto x label x } go { print 2 $ }",
	}
}

// TestStatements: each name of each kind of statement, of each kind, of none; in any block, in any thread.
func TestStatements(t *testing.T) {
	all := slots()
	if len(all) < 6*50 {
		t.Fatalf("only %d slots", len(all))
	}
	for _, c := range all {
		for _, frame := range around() {
			for _, s := range strings.Fields("v w a l m c x lockm vv") {
				text := one + strings.ReplaceAll(frame, "$", strings.ReplaceAll(c.text, "$", s))
				if strings.Contains(c.names, s) {
					passes(t, text)
					continue
				}
				refuses(t, text)
			}
		}
	}
}

// TestUndeclared: where nothing is declared no statement with a name is right, and the other things of one name do not help.
func TestUndeclared(t *testing.T) {
	for _, s := range []string{
		"go { @x = 1 }", "go { @lock x }", "go { @unlock x }", "go { @send x 1 }", "go { @recv x x }", "go { @print x }", "go { @if x { } }",
		"chan c 0 go { @send c x }", "chan c 0 go { @recv c x }", "var x go { @recv c x }", "var x go { @send c x }", "var x go { @x = y }", "var y go { @x = y }",
		"var xx go { @x = 1 }", "var x go { @xx = 1 }", "var x1 go { @x = x1 }",
	} {
		refuses(t, s)
	}
}

// TestTwice: of declarations whose names were declared ahead of them the first one is told, whatever their kinds are.
func TestTwice(t *testing.T) {
	words := strings.Fields("var wide atomic local mutex chan")
	decl := func(word, name string) string {
		if word == "chan" {
			return "chan " + name + " 2"
		}
		return word + " " + name
	}
	for _, first := range words {
		for _, second := range words {
			for _, behind := range []string{" go { }", " go { x = 1 }", " go { n = 1 lock n send n n }"} {
				refuses(t, decl(first, "n")+" @"+decl(second, "n")+behind)
				refuses(t, decl(first, "n")+" var o\nmutex p\n\t@"+decl(second, "n")+behind)
				refuses(t, "var o "+decl(first, "n")+" @"+decl(second, "n")+" "+decl(first, "n")+" var o"+behind)
			}
		}
	}
	for _, s := range []string{
		"var a @var a var a go { }", "var a var b @var b var a go { }", "var a var b @var a var b go { }",
		"var a mutex b @chan a 1 var b go { x = 1 }", "var a var b var c var d @var d go { }", "var a var b var c var d @var a go { a = 1 }",
		"var a var aa var aaa @var aa go { lock a }",
	} {
		refuses(t, s)
	}
	passes(t, "var a var aa var aaa var b go { }")
}

// TestTwiceOfMost: each pair of as many declarations as there may be.
func TestTwiceOfMost(t *testing.T) {
	for i := range api.MaxDecls {
		for j := range i {
			var p api.Prog
			for k := range api.MaxDecls {
				p.Decls = append(p.Decls, api.Decl{Kind: 1 + k%6, Name: "n" + strconv.Itoa(k), At: complex(float64(k), 7)})
			}
			p.Decls[i].Name = p.Decls[j].Name
			answers(t, fmt.Sprint(j, " and ", i), p, complex(float64(i), 7), api.ErrName)
		}
	}
}

// TestFirstWrong: of many wrong statements the first one in order is told, not the one that is inside it, behind it, or less right.
func TestFirstWrong(t *testing.T) {
	for _, s := range []string{
		"go { @x = 1 x = 1 }", "go { @x = 1 y = 1 lock z }", "go { v = 1 @v = m\n c = 1 }", "go { @lock v\n x = 1 }", "go { v = w @send m 1 recv c x }",
		// a statement is ahead of those within it, these ahead of its else, this ahead of what follows
		"go { @if m { x = 1 } else { y = 1 } z = 1 }", "go { if v { @x = 1 } else { y = 1 } z = 1 }", "go { if v { l = 1 } else { @y = 1 } z = 1 }", "go { if v { l = 1 } else { w = 1 } @z = 1 }",
		"go { repeat 2 { @x = 1 } y = 1 }", "go { repeat 2 { lock m } @y = 1 }",
		"go { if v { if w { } else { @x = 1 } x = 1 } else { x = 1 } x = 1 }", "go { if v { if w { if a { } @x = 1 } x = 1 } x = 1 }", "go { if v { } if w { repeat 1 { } } else { if l { } else { } @lock c } lock c }",
		// threads in their order
		"go { @x = 1 } go { y = 1 }", "go { v = 1 } go { @x = 1 } go { y = 1 }", "go { if v { if w { @x = 1 } } } go { y = 1 }", "go { } go { } go { } go { @y = 1 y = 1 }", "go { v = 1 @z = 1 } go { x = 1 }",
		// two faults of one statement
		"go { @x = y }", "go { @recv x y }", "go { @send x y + z }", "go { @v = m + c + x v = x }",
	} {
		refuses(t, one+s)
	}
}

// TestTwoWrong: of any two statements of a program that are wrong, the one ahead.
func TestTwoWrong(t *testing.T) {
	s := "var v go { v = 1 if v { v = 2 if v { v = 3 } else { v = 4 } v = 5 } else { repeat 2 { v = 6 } v = 7 } v = 8 } go { } go { v = 9 repeat 1 { v = 10 } }"
	n := len(tree.List(read(t, s)))
	var spots []int
	for at := range s {
		if strings.HasPrefix(s[at:], "v = ") {
			spots = append(spots, at)
		}
	}
	if n != 14 || len(spots) != 10 {
		t.Fatalf("%d statements, %d assignments", n, len(spots))
	}
	for k, first := range spots {
		for _, second := range spots[k:] {
			bent := []byte(s)
			bent[first], bent[second] = 'x', 'x'
			answers(t, string(bent), read(t, string(bent)), place.Of(s, first), api.ErrName)
		}
	}
}

// TestPlaces: the place is the one that the declaration or statement has, whatever it is.
func TestPlaces(t *testing.T) {
	for _, at := range []complex128{0, 7, -3 - 2i, 1e300i, complex(math.Inf(1), math.Inf(-1))} {
		bad := api.Stmt{Kind: api.Lock, Name: "v", At: at}
		answers(t, "a statement", thread(bad), at, api.ErrName)
		answers(t, "a statement within", thread(api.Stmt{Kind: api.Repeat, At: 5, Else: []api.Stmt{bad}}), at, api.ErrName)
		answers(t, "a declaration", api.Prog{Decls: []api.Decl{{Name: "n", At: 5}, {Name: "n", At: at}}}, at, api.ErrName)
		answers(t, "none", thread(api.Stmt{Kind: api.Lock, Name: "m", At: at}), 0, api.OK)
	}
	nan := complex(math.NaN(), 3)
	if at, e := names.Check(thread(api.Stmt{Kind: api.Unlock, At: nan})); e != api.ErrName || !math.IsNaN(real(at)) || imag(at) != 3 {
		t.Errorf("8.1: Check, of a place that is no number: %v, %d", at, e)
	}
}

// TestOtherKinds: a declaration of a kind that is none is of no kind that a name must have, but it is declared.
func TestOtherKinds(t *testing.T) {
	for _, kind := range []int{0, -1, api.Chan + 1, 99, math.MinInt, math.MaxInt} {
		d := api.Decl{Kind: kind, Name: "n", At: 2}
		for _, s := range []api.Stmt{
			{Kind: api.Assign, Name: "n", At: 9}, {Kind: api.Print, E: name("n"), At: 9}, {Kind: api.Lock, Name: "n", At: 9}, {Kind: api.Unlock, Name: "n", At: 9},
			{Kind: api.Send, Name: "n", At: 9}, {Kind: api.Recv, Name: "n", Other: "v", At: 9}, {Kind: api.Recv, Name: "c", Other: "n", At: 9},
		} {
			answers(t, fmt.Sprintf("kind %d, %v", kind, s), api.Prog{Decls: append(kinds(), d), Threads: [][]api.Stmt{{s}}}, 9, api.ErrName)
		}
		answers(t, fmt.Sprint("kind ", kind), api.Prog{Decls: append(kinds(), d), Threads: [][]api.Stmt{{{Kind: api.Label, Name: "n"}}}}, 0, api.OK)
		answers(t, fmt.Sprint("twice, kind ", kind), api.Prog{Decls: []api.Decl{d, {Kind: api.Var, Name: "n", At: 3}}}, 3, api.ErrName)
		answers(t, fmt.Sprint("twice, then kind ", kind), api.Prog{Decls: []api.Decl{{Kind: api.Var, Name: "n", At: 3}, d}}, 2, api.ErrName)
	}
}

// TestOddNames: names that no text has are names as well, the empty one too.
func TestOddNames(t *testing.T) {
	for _, s := range []string{"", "lock", "A b", "\xff\x00"} {
		lock := api.Stmt{Kind: api.Lock, Name: s, At: 4}
		answers(t, "declared", api.Prog{Decls: []api.Decl{{Kind: api.Mutex, Name: s}}, Threads: [][]api.Stmt{{lock}}}, 0, api.OK)
		answers(t, "not declared", thread(lock), 4, api.ErrName)
		answers(t, "read", thread(api.Stmt{Kind: api.Print, E: name(s), At: 4}), 4, api.ErrName)
		answers(t, "twice", api.Prog{Decls: []api.Decl{{Kind: api.Mutex, Name: s}, {Kind: api.Var, Name: s, At: 6}}}, 6, api.ErrName)
	}
	answers(t, "an assignment without a name", thread(api.Stmt{Kind: api.Assign, E: num(1), At: 4}), 4, api.ErrName)
	answers(t, "names that are not folded", api.Prog{Decls: []api.Decl{{Kind: api.Var, Name: "n"}, {Kind: api.Var, Name: "N"}}}, 0, api.OK)
}

// TestOtherFields: what the kind of a statement has no use for is no name of it.
func TestOtherFields(t *testing.T) {
	stray := op(api.Add, name("x"), name("m"))
	for _, s := range []api.Stmt{
		{Kind: api.Assign, Name: "v", Other: "x"}, {Kind: api.Lock, Name: "m", Other: "x", E: stray}, {Kind: api.Unlock, Name: "m", Other: "x", E: stray},
		{Kind: api.Send, Name: "c", Other: "x"}, {Kind: api.Recv, Name: "c", Other: "v", E: stray}, {Kind: api.Print, Name: "x", Other: "m"}, {Kind: api.If, Name: "x", Other: "m"},
		{Kind: api.Repeat, Name: "x", Other: "m", E: stray}, {Kind: api.Goto, Name: "x", Other: "m", E: stray}, {Kind: api.Label, Name: "x", Other: "m", E: stray},
		{Kind: 0, Name: "x", Other: "m", E: stray}, {Kind: -1, Name: "x", Other: "m", E: stray}, {Kind: api.Label + 1, Name: "x", Other: "m", E: stray}, {Kind: math.MinInt, Name: "x", E: stray},
		{Kind: api.Print, E: api.Expr{Kind: api.Number, Name: "x"}}, {Kind: api.Print, E: api.Expr{Kind: api.Minus, Name: "x", Of: []api.Expr{name("v")}}}, {},
	} {
		answers(t, fmt.Sprintf("%v", s), thread(s), 0, api.OK)
	}
}

// TestOddExpressions: each name that tree.Names tells is held, whatever the kind of what is around it.
func TestOddExpressions(t *testing.T) {
	for kind := -1; kind < 13; kind++ {
		for _, bad := range []string{"x", "m", "c"} {
			for _, e := range []api.Expr{op(kind, name(bad)), op(kind, name("v"), name(bad)), op(kind, name("v"), name("w"), op(kind, num(1), name("l"), name(bad)))} {
				if kind == api.Name {
					e.Name = "v"
				}
				answers(t, fmt.Sprintf("%v", e), thread(api.Stmt{Kind: api.Print, E: e, At: 8}), 8, api.ErrName)
			}
		}
	}
}

// TestOddBlocks: tree.List tells the Body and Else of any statement, whatever its kind, and so they are held.
func TestOddBlocks(t *testing.T) {
	bad := []api.Stmt{{Kind: api.Assign, Name: "v"}, {Kind: api.Unlock, Name: "x", At: 8}}
	later := api.Stmt{Kind: api.Unlock, Name: "x", At: 99}
	for kind := -1; kind < 13; kind++ {
		s := api.Stmt{Kind: kind, Name: "v", Other: "v"}
		switch kind {
		case api.Lock, api.Unlock:
			s.Name = "m"
		case api.Send, api.Recv:
			s.Name = "c"
		}
		answers(t, fmt.Sprint("kind ", kind), thread(s), 0, api.OK)
		s.Body = bad
		answers(t, fmt.Sprint("Body, kind ", kind), thread(s, later), 8, api.ErrName)
		s.Body, s.Else = nil, bad
		answers(t, fmt.Sprint("Else, kind ", kind), thread(s, later), 8, api.ErrName)
		s.Body = []api.Stmt{{Kind: api.Send, Name: "v", At: 7}}
		answers(t, fmt.Sprint("both, kind ", kind), thread(s, later), 7, api.ErrName)
	}
}

// TestNone: where there is nothing, nothing is wrong; nil and an empty list are the same.
func TestNone(t *testing.T) {
	for k, p := range []api.Prog{
		{}, {Decls: []api.Decl{}, Threads: [][]api.Stmt{}}, {Threads: [][]api.Stmt{nil, {}, nil}}, {Decls: []api.Decl{{}}}, {Threads: [][]api.Stmt{{{}}}},
		{Threads: [][]api.Stmt{{{Kind: api.If, Body: []api.Stmt{}, Else: []api.Stmt{}, E: api.Expr{Of: []api.Expr{}}}}}},
	} {
		answers(t, fmt.Sprint("program ", k), p, 0, api.OK)
	}
	answers(t, "behind threads of none", api.Prog{Threads: [][]api.Stmt{nil, {}, {{Kind: api.Lock, At: 3}}}}, 3, api.ErrName)
}

// TestDeep: trees that nest as deep as R1 allows, in blocks and in expressions.
func TestDeep(t *testing.T) {
	const n = 1 << 10
	for bottom, want := range map[string]api.Errno{"v": api.OK, "x": api.ErrName} {
		e := name(bottom)
		for range n {
			e = op(api.Minus, e)
		}
		at := complex128(0)
		if want != api.OK {
			at = 77
		}
		block := []api.Stmt{{Kind: api.Print, E: e, At: 77}}
		answers(t, "a deep expression of "+bottom, thread(block...), at, want)
		for k := range n {
			s := api.Stmt{Kind: api.If, At: 5, Body: block}
			if k%2 == 1 {
				s.Body, s.Else = nil, block
			}
			block = []api.Stmt{{Kind: api.Lock, Name: "m", At: 6}, s}
		}
		answers(t, "a deep block of "+bottom, thread(append(block, api.Stmt{Kind: api.Label})...), at, want)
	}
}

// TestManyBelow: very many statements with as many blocks around them as may be: none is copied for each of these.
func TestManyBelow(t *testing.T) {
	const n = 1 << 16
	block := make([]api.Stmt, n)
	for k := range block {
		block[k] = api.Stmt{Kind: api.Assign, Name: "v", At: complex(float64(k), 1)}
	}
	for range 1 << 10 {
		block = []api.Stmt{{Kind: api.Repeat, Body: block}}
	}
	p := thread(block...)
	answers(t, "many below", p, 0, api.OK)
	for range 1 << 10 {
		block = block[0].Body
	}
	block[n-1].Name = "x"
	answers(t, "many below, the last one wrong", p, complex(n-1, 1), api.ErrName)
}

// TestMany: very many declarations, very many statements that name the last of them, a long expression.
func TestMany(t *testing.T) {
	const n = 1 << 17
	var p api.Prog
	e := op(api.Add)
	for k := range n {
		own := "n" + strconv.Itoa(k)
		p.Decls = append(p.Decls, api.Decl{Kind: api.Var, Name: own, At: complex(float64(k), 1)})
		e.Of = append(e.Of, name(own))
	}
	last := "n" + strconv.Itoa(n-1)
	for k := range n {
		p.Threads = append(p.Threads, []api.Stmt{{Kind: api.Assign, Name: last, E: name(last), At: complex(float64(k), 2)}})
	}
	p.Threads[n-1][0].E = e
	answers(t, "many", p, 0, api.OK)
	e.Of[n-1].Name = "x"
	answers(t, "many, the last name wrong", p, complex(n-1, 2), api.ErrName)
	p.Decls[n-1].Name = "n0"
	answers(t, "many, the last one twice", p, complex(n-1, 1), api.ErrName)
}

// plain is Check as chapter 8 has it, word by word.
func plain(p api.Prog) (complex128, api.Errno) {
	for k, d := range p.Decls {
		if slices.ContainsFunc(p.Decls[:k], func(e api.Decl) bool { return e.Name == d.Name }) {
			return d.At, api.ErrName
		}
	}
	is := func(name string, kinds ...int) bool {
		return slices.ContainsFunc(p.Decls, func(d api.Decl) bool { return d.Name == name && slices.Contains(kinds, d.Kind) })
	}
	for _, s := range tree.List(p) {
		ok := true
		for _, name := range tree.Touches(s) {
			ok = ok && is(name, api.Var, api.Wide, api.Atomic, api.Local)
		}
		if s.Kind == api.Lock || s.Kind == api.Unlock {
			ok = ok && is(s.Name, api.Mutex)
		}
		if s.Kind == api.Send || s.Kind == api.Recv {
			ok = ok && is(s.Name, api.Chan)
		}
		if !ok {
			return s.At, api.ErrName
		}
	}
	return 0, api.OK
}

// maker draws a tree by a fixed rule; each thing in it has a place of its own.
type maker struct {
	draw *rand.Rand
	at   float64
	odd  int // of so many names one is drawn from all
}

func (m *maker) place() complex128 {
	m.at++
	return complex(m.at, 1)
}

// name is one of these mostly, and now and then any other.
func (m *maker) name(list string) string {
	if m.draw.Intn(m.odd) == 0 {
		list = "vwalmcnx"
	}
	k := m.draw.Intn(len(list))
	return list[k : k+1]
}

func (m *maker) grow(deep int) api.Expr {
	switch kind := m.draw.Intn(12); {
	case deep == 0 && kind < 6, kind < 2:
		return num(m.draw.Intn(9))
	case deep == 0, kind < 5:
		return name(m.name(variable))
	case kind == 5:
		return op(api.Minus, m.grow(deep-1))
	default:
		return op(api.Add+m.draw.Intn(7), m.grow(deep-1), m.grow(deep-1))
	}
}

func (m *maker) block(deep int) []api.Stmt {
	var list []api.Stmt
	for m.draw.Intn(4) > 0 {
		list = append(list, m.statement(deep))
	}
	return list
}

func (m *maker) statement(deep int) api.Stmt {
	s := api.Stmt{Kind: m.draw.Intn(12), At: m.place()}
	switch s.Kind {
	case api.Assign:
		s.Name, s.E = m.name(variable), m.grow(2)
	case api.Lock, api.Unlock:
		s.Name = m.name(mutex)
	case api.Send:
		s.Name, s.E = m.name(channel), m.grow(2)
	case api.Recv:
		s.Name, s.Other = m.name(channel), m.name(variable)
	case api.Print, api.If:
		s.E = m.grow(2)
	default:
		s.Name, s.Other, s.E = m.name("x"), m.name("x"), name("x")
	}
	if deep > 0 {
		s.Body, s.Else = m.block(deep-1), m.block(deep-1)
	}
	return s
}

// program has declarations that are mostly those of one, in another order, some left out, some bent.
func (m *maker) program() api.Prog {
	var p api.Prog
	list := append(kinds(), api.Decl{Kind: api.Var, Name: "n"})
	m.draw.Shuffle(len(list), func(i, j int) { list[i], list[j] = list[j], list[i] })
	for _, d := range list {
		d.At = m.place()
		switch m.draw.Intn(3 * m.odd) {
		case 0:
			continue
		case 1:
			d.Kind = m.draw.Intn(9) - 1
		case 2:
			d.Name = m.name("vwalmc")
		}
		p.Decls = append(p.Decls, d)
	}
	for range m.draw.Intn(5) {
		p.Threads = append(p.Threads, m.block(m.draw.Intn(3)))
	}
	return p
}

// TestManyPrograms: drawn programs, from mostly right to mostly wrong, held against the chapter's words.
func TestManyPrograms(t *testing.T) {
	right, decl, stmt := 0, 0, 0
	for _, odd := range []int{2, 10, 40, 200} {
		m := maker{draw: rand.New(rand.NewSource(8)), odd: odd}
		for range 2500 {
			p := m.program()
			at, e := plain(p)
			if got, fault := names.Check(p); got != at || fault != e {
				t.Fatalf("8.1: Check(%+v): %v, %d, not %v, %d", p, got, fault, at, e)
			}
			switch {
			case e == api.OK:
				right++
			case slices.ContainsFunc(p.Decls, func(d api.Decl) bool { return d.At == at }):
				decl++
			default:
				stmt++
			}
			for _, s := range strings.Split("vwalmcnx", "") {
				want := slices.IndexFunc(p.Decls, func(d api.Decl) bool { return d.Name == s })
				if got := names.Find(p, s); got != want {
					t.Fatalf("8.1: Find(%+v, %q): %d, not %d", p.Decls, s, got, want)
				}
			}
		}
	}
	if right < 3000 || decl < 1000 || stmt < 2000 {
		t.Errorf("only %d right, %d with wrong declarations, %d with wrong statements", right, decl, stmt)
	}
}

// roomy is list with something in its spare room, and each list within it likewise.
func roomy(v reflect.Value) reflect.Value {
	switch v.Kind() {
	case reflect.Slice:
		list := reflect.MakeSlice(v.Type(), v.Len()+2, v.Len()+2)
		for k := range v.Len() {
			list.Index(k).Set(roomy(v.Index(k)))
		}
		for k := v.Len(); k < list.Len(); k++ {
			mark(list.Index(k))
		}
		return list.Slice(0, v.Len())
	case reflect.Struct:
		own := reflect.New(v.Type()).Elem()
		for k := range v.NumField() {
			own.Field(k).Set(roomy(v.Field(k)))
		}
		return own
	}
	return v
}

// mark fills in what would be wrong, if spare room were gone through.
func mark(v reflect.Value) {
	switch v.Kind() {
	case reflect.Struct:
		v.FieldByName("Kind").SetInt(api.Lock)
		v.FieldByName("Name").SetString("spare")
	case reflect.Slice:
		v.Set(reflect.MakeSlice(v.Type(), 1, 1))
		mark(v.Index(0))
	}
}

// shown is all that v holds, the spare room of its lists included.
func shown(v reflect.Value) string {
	var b strings.Builder
	switch v.Kind() {
	case reflect.Slice:
		fmt.Fprintf(&b, "%d/%d[", v.Len(), v.Cap())
		for k := range v.Cap() {
			b.WriteString(shown(v.Slice(0, v.Cap()).Index(k)) + " ")
		}
		return b.String() + "]"
	case reflect.Struct:
		for k := range v.NumField() {
			b.WriteString(shown(v.Field(k)) + " ")
		}
		return "{" + b.String() + "}"
	}
	return fmt.Sprintf("%#v", v.Interface())
}

// TestHandedIn: the program that is handed in is as it was, spare room included, and that room is none of the program.
func TestHandedIn(t *testing.T) {
	m := maker{draw: rand.New(rand.NewSource(88)), odd: 30}
	for range 100 {
		own := m.program()
		p := roomy(reflect.ValueOf(own)).Interface().(api.Prog)
		was := shown(reflect.ValueOf(p))
		at, e := plain(own)
		answers(t, "a program with spare room", p, at, e)
		if got := names.Find(p, "spare"); got != -1 {
			t.Errorf("8.1: Find, of spare room: %d", got)
		}
		if shown(reflect.ValueOf(p)) != was {
			t.Errorf("R2: Check or Find of %+v: the program is another one", own)
		}
	}
}

// TestSameAgain: the same program tells the same, whatever was asked between.
func TestSameAgain(t *testing.T) {
	m := maker{draw: rand.New(rand.NewSource(888)), odd: 30}
	for range 300 {
		p, other := m.program(), m.program()
		at, e := names.Check(p)
		n := names.Find(p, "v")
		names.Check(other)
		names.Find(other, "v")
		answers(t, "again", tree.Copy(p), at, e)
		answers(t, "again", p, at, e)
		if again := names.Find(p, "v"); again != n {
			t.Errorf("R4: Find: %d, then %d", n, again)
		}
	}
}

// TestSharedLists: lists that stand at many places of a tree are gone through at each of them.
func TestSharedLists(t *testing.T) {
	block := []api.Stmt{{Kind: api.Assign, Name: "v", At: 1}, {Kind: api.Recv, Name: "c", Other: "l", At: 2}}
	for range 8 {
		block = []api.Stmt{{Kind: api.If, Body: block, Else: block, At: 3}, {Kind: api.Repeat, Body: block[:1], At: 4}}
	}
	p := api.Prog{Decls: kinds(), Threads: [][]api.Stmt{block, block[1:], block}}
	answers(t, "shared lists", p, 0, api.OK)
	p.Decls = p.Decls[:5]
	answers(t, "shared lists, without the channel", p, 2, api.ErrName)
}
