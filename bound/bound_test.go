package bound_test

import (
	"fmt"
	"math"
	"math/big"
	"math/rand"
	"reflect"
	"slices"
	"strings"
	"testing"

	"suture/api"
	"suture/bound"
	"suture/parse"
	"suture/place"
	"suture/tree"
)

// most is what each greater number is told as.
const most = 1<<31 - 1

// operators is each kind of operator of two.
var operators = []int{api.Add, api.Sub, api.Mul, api.Div, api.Mod, api.Less, api.Equal}

func num(n int) api.Expr { return api.Expr{Kind: api.Number, N: n} }

func name(s string) api.Expr { return api.Expr{Kind: api.Name, Name: s} }

func op(kind int, parts ...api.Expr) api.Expr { return api.Expr{Kind: kind, Of: parts} }

func repeat(n int, body ...api.Stmt) api.Stmt {
	return api.Stmt{Kind: api.Repeat, N: n, Body: body}
}

// choice is an If whose E is one number.
func choice(body, other []api.Stmt) api.Stmt {
	return api.Stmt{Kind: api.If, E: num(1), Body: body, Else: other}
}

// long is statements of n instructions, none of which is a Repeat.
func long(n int) []api.Stmt {
	return slices.Repeat([]api.Stmt{{Kind: api.Lock, Name: "m"}}, n)
}

// thread is a program of one thread, of these statements.
func thread(list ...api.Stmt) api.Prog { return api.Prog{Threads: [][]api.Stmt{list}} }

func read(t *testing.T, s string) api.Prog {
	t.Helper()
	p, at, e := parse.Read(s)
	if e != api.OK {
		t.Fatalf("5.1: Read(%q): %v, %d", s, at, e)
	}
	return p
}

// sizes holds Size, of p, against want.
func sizes(t *testing.T, what string, p api.Prog, want ...int) {
	t.Helper()
	if got := bound.Size(p); !slices.Equal(got, want) {
		t.Errorf("10.1: Size(%.300s): %v, not %v", what, got, want)
	}
}

// bodies holds the size of a thread of each text's statements against what is told of it.
func bodies(t *testing.T, wants map[string]int) {
	t.Helper()
	for s, want := range wants {
		sizes(t, s, read(t, "go { "+s+" }"), want)
	}
}

// answers holds Check, of p, against want.
func answers(t *testing.T, what string, p api.Prog, at complex128, e api.Errno) {
	t.Helper()
	if got, fault := bound.Check(p); got != at || fault != e {
		t.Errorf("10.1: Check(%.300s): %v, %d, not %v, %d", what, got, fault, at, e)
	}
}

// passes holds that no thread of the texts is too long.
func passes(t *testing.T, texts ...string) {
	t.Helper()
	for _, s := range texts {
		answers(t, s, read(t, s), 0, api.OK)
	}
}

// refuses holds that what is told of each text is what stands behind its only @.
func refuses(t *testing.T, texts ...string) {
	t.Helper()
	for _, s := range texts {
		if strings.Count(s, "@") != 1 {
			t.Fatalf("%q has not one @", s)
		}
		at := strings.Index(s, "@")
		s = s[:at] + s[at+1:]
		answers(t, s, read(t, s), place.Of(s, at), api.ErrSize)
	}
}

// TestExample: chapter 10's example.
func TestExample(t *testing.T) {
	bodies(t, map[string]int{"x = y + 1": 4})
	sizes(t, "x = y + 1", thread(api.Stmt{Kind: api.Assign, Name: "x", E: op(api.Add, name("y"), num(1))}), 4)
}

// TestExpr: one for each number, name and operator.
func TestExpr(t *testing.T) {
	holds := func(e api.Expr, want int) {
		t.Helper()
		if got := bound.Expr(e); got != want {
			t.Errorf("10.1: Expr(%+v): %d, not %d", e, got, want)
		}
	}
	for _, n := range []int{0, 1, 2, 99, -1, math.MaxInt, math.MinInt} {
		holds(num(n), 1)
	}
	for _, s := range []string{"x", "", "abc", "lock", "a b"} {
		holds(name(s), 1)
	}
	holds(op(api.Minus, num(7)), 2)
	holds(op(api.Minus, name("x")), 2)
	holds(op(api.Minus, op(api.Minus, op(api.Minus, name("x")))), 4)
	for _, kind := range operators {
		holds(op(kind, name("x"), num(2)), 3)
		holds(op(kind, num(2), num(2)), 3)
		holds(op(kind, op(api.Minus, name("x")), name("x")), 4)
		holds(op(kind, name("x"), op(api.Minus, name("x"))), 4)
		for _, inner := range operators {
			holds(op(kind, op(inner, name("x"), num(2)), num(3)), 5)
			holds(op(kind, num(3), op(inner, name("x"), num(2))), 5)
			holds(op(kind, op(inner, name("x"), num(2)), op(inner, num(5), name("y"))), 7)
		}
		holds(op(api.Minus, op(kind, name("x"), name("y"))), 4)
	}
}

// TestExprOfTexts: of what stands in a text, parentheses and the size of a number are nothing.
func TestExprOfTexts(t *testing.T) {
	for s, want := range map[string]int{
		"0": 1, "12345": 1, "x": 1, "longername": 1, "(x)": 1, "(((((((x)))))))": 1, "-x": 2, "-1": 2, "--1": 3, "-(-(-(x)))": 4,
		"x + 1": 3, "x - 1": 3, "x * 1": 3, "x / 1": 3, "x % 1": 3, "x < 1": 3, "x == 1": 3, "x+x+x": 5, "x + (x + x)": 5,
		"(x+1)*(-(2))": 6, "a * b + c / d - e % f": 11, "(a + b) < (c + d)": 7, "((a < b) == (c < d)) * -x": 10, "1+2+3+4+5+6+7+8+9": 17,
	} {
		p := read(t, "go { print "+s+" }")
		if got := bound.Expr(p.Threads[0][0].E); got != want {
			t.Errorf("10.1: Expr(%q): %d, not %d", s, got, want)
		}
	}
}

// TestExprOther: trees that no text has: what is no number, name or operator is nothing by itself, and what it is of counts.
func TestExprOther(t *testing.T) {
	both := []api.Expr{name("x"), num(1)}
	for _, c := range []struct {
		e    api.Expr
		want int
	}{
		{api.Expr{}, 0}, {api.Expr{Kind: api.Equal + 1}, 0}, {api.Expr{Kind: -1}, 0}, {api.Expr{Kind: math.MaxInt}, 0}, {api.Expr{Kind: math.MinInt}, 0},
		{api.Expr{N: 5, Name: "x"}, 0}, {api.Expr{Of: both}, 2}, {api.Expr{Kind: 11, Of: both}, 2},
		{op(api.Add), 1}, {op(api.Minus), 1}, {op(api.Minus, both...), 3}, {op(api.Less, name("x")), 2}, {op(api.Mul, name("x"), num(1), num(2), num(3)), 5},
		{op(api.Add, api.Expr{}, num(1)), 2}, {op(api.Add, api.Expr{}, api.Expr{}), 1}, {op(api.Minus, api.Expr{Of: []api.Expr{op(api.Minus, num(1))}}), 3},
		{api.Expr{Kind: api.Number, Of: []api.Expr{}}, 1}, {api.Expr{Kind: api.Name, Of: both}, 3},
	} {
		if got := bound.Expr(c.e); got != c.want {
			t.Errorf("10.1: Expr(%+v): %d, not %d", c.e, got, c.want)
		}
	}
}

// TestEachKind: each kind of statement alone.
func TestEachKind(t *testing.T) {
	bodies(t, map[string]int{
		"x = 1": 2, "x = y": 2, "x = x": 2, "x = -1": 3, "x = a + b + c": 6, "lock m": 1, "unlock m": 1, "goto a": 1, "label a": 0,
		"send c 1": 2, "send c x": 2, "send c -x": 3, "send c x * y - 1": 6, "recv c x": 2, "print 1": 2, "print x": 2, "print (1)": 2, "print (x < y) == z": 6,
		"if x { }": 2, "if -x { }": 3, "if x == 1 { }": 4, "repeat 1 { }": 0, "repeat 9 { }": 0, "": 0,
	})
}

// TestFields: fields that a kind gives no meaning are nothing.
func TestFields(t *testing.T) {
	full := api.Stmt{Name: "x", Other: "y", N: 5, E: op(api.Add, name("x"), num(1)), Body: long(7), Else: long(20), At: 3 + 4i}
	for kind, want := range map[int]int{
		api.Assign: 4, api.Lock: 1, api.Unlock: 1, api.Send: 4, api.Recv: 2, api.Print: 4, api.If: 4 + 7 + 1 + 20, api.Repeat: 35, api.Goto: 1, api.Label: 0,
		0: 0, -1: 0, api.Label + 1: 0, math.MaxInt: 0, math.MinInt: 0,
	} {
		s := full
		s.Kind = kind
		sizes(t, fmt.Sprint("kind ", kind), thread(s), want)
		sizes(t, fmt.Sprint("kind ", kind, " alone"), thread(api.Stmt{Kind: kind}), map[int]int{api.Assign: 1, api.Lock: 1, api.Unlock: 1, api.Send: 1, api.Recv: 2, api.Print: 1, api.If: 1, api.Goto: 1}[kind])
	}
}

// TestIf: its E, its Body, and its Else, which has one more if it has statements.
func TestIf(t *testing.T) {
	bodies(t, map[string]int{
		// without an Else
		"if x { y = 1 }": 4, "if x + 1 { y = 1 }": 6, "if x { lock m unlock m }": 4, "if x { label a }": 2, "if x { repeat 0 { x = 1 } }": 2,
		"if x { y = 1 } else { }": 4, "if x { } else { }": 2,
		// with one
		"if x { } else { y = 1 }": 5, "if x { y = 1 } else { print 2 }": 7, "if x { y = 1 } else { print 2 lock m }": 8, "if -x { lock m } else { recv c x recv c x }": 9,
		// with one that has no size
		"if x { } else { label a }": 3, "if x { y = 1 } else { label a label b }": 5, "if x { y = 1 } else { repeat 0 { y = 1 } }": 5, "if x { y = 1 } else { repeat 4 { } }": 5, "if x { label a } else { label b }": 3,
		// within one another
		"if x { if y { print 1 } }": 6, "if x { } else { if y { } }": 5, "if x { if y { } else { lock m } } else { if y { lock m } }": 10, "if x { if x { if x { if x { } else { lock m } } } }": 10,
	})
	for _, other := range [][]api.Stmt{nil, {}, long(3)[:0]} {
		sizes(t, "an If with an empty Else", thread(choice(long(4), other)), 6)
		sizes(t, "an If of nothing", thread(choice(other, other)), 2)
	}
	// an Else of a statement without a size, of each kind that has none
	for _, s := range []api.Stmt{{}, {Kind: api.Label}, {Kind: 99}, repeat(0, long(3)...), repeat(3)} {
		sizes(t, "an If with an Else of no size", thread(choice(long(4), []api.Stmt{s})), 7)
	}
}

// TestRepeat: N times its Body.
func TestRepeat(t *testing.T) {
	bodies(t, map[string]int{
		"repeat 0 { x = 1 }": 0, "repeat 1 { x = 1 }": 2, "repeat 2 { x = 1 }": 4, "repeat 3 { x = 1 lock m }": 9, "repeat 9 { recv c x print 1 }": 36,
		// a Body without a size
		"repeat 5 { }": 0, "repeat 5 { label a }": 0, "repeat 9 { repeat 0 { x = 1 } }": 0, "repeat 0 { }": 0, "repeat 0 { label a }": 0,
		// within one another
		"repeat 2 { repeat 3 { x = 1 } }": 12, "repeat 2 { repeat 3 { x = 1 } lock m }": 14, "repeat 2 { lock m repeat 3 { x = 1 } }": 14, "repeat 0 { repeat 3 { x = 1 } }": 0, "repeat 1 { repeat 1 { repeat 1 { x = 1 } } }": 2,
		"repeat 2 { repeat 2 { repeat 2 { repeat 2 { lock m } lock m } lock m } lock m }": 30, "repeat 9 { repeat 9 { repeat 9 { repeat 9 { lock m } } } }": 6561,
		// with an If in it, or within one
		"repeat 3 { if x { y = 1 } else { label a } }": 15, "if x { repeat 3 { y = 1 } } else { repeat 2 { lock m } }": 11, "repeat 2 { if x { repeat 2 { goto a } } label a }": 8,
	})
	for n, want := range map[int]int{-1: 0, -9: 0, math.MinInt: 0, 0: 0, 1: 4, 9: 36, 10: 40, 1000: 4000} {
		sizes(t, fmt.Sprint("repeat ", n), thread(repeat(n, long(4)...)), want)
	}
	for _, n := range []int{math.MinInt, -1, 0, 1, most, most + 1, math.MaxInt} {
		sizes(t, fmt.Sprint("repeat of nothing ", n), thread(repeat(n)), 0)
		sizes(t, fmt.Sprint("repeat of a label ", n), thread(repeat(n, api.Stmt{Kind: api.Label})), 0)
	}
	// less than none does not make anything else less
	sizes(t, "beside a Repeat of N below 0", thread(append(long(3), repeat(-2, long(1)...), repeat(2, repeat(-1, long(5)...)))...), 3)
	sizes(t, "N below 0 twice", thread(repeat(-3, repeat(-3, long(2)...))), 0)
}

// TestSums: statements behind one another.
func TestSums(t *testing.T) {
	bodies(t, map[string]int{
		"x = 1 y = 2": 4, "lock m x = x + 1 unlock m": 6, "label a label b label c": 0, "goto a print 1 label a": 3, "send c 1 recv c x print x": 6,
		"x = 1 if x { y = 1 } repeat 2 { lock m } recv c x": 10, "if x { } if x { } if x { }": 6, "repeat 2 { lock m } repeat 3 { lock m }": 5, "if x { } else { lock m } label a if x { } else { label b }": 7,
	})
	for _, n := range []int{0, 1, 2, 17, 5000} {
		sizes(t, fmt.Sprint(n, " locks"), thread(long(n)...), n)
	}
}

// TestThreads: each thread has a size of its own, however many there are.
func TestThreads(t *testing.T) {
	for s, want := range map[string][]int{
		"go { }": {0}, "go { } go { }": {0, 0}, "go { x = 1 } go { } go { lock m }": {2, 0, 1}, "go { } go { recv c x } go { } go { repeat 3 { recv c x } }": {0, 2, 0, 6},
		"go { label a } go { goto a label a }": {0, 1}, "var x mutex m chan c 1 go { x = 1 }": {2}, "go { repeat 9 { repeat 9 { lock m } } } go { lock m }": {81, 1},
	} {
		sizes(t, s, read(t, s), want...)
	}
	sizes(t, "no threads", api.Prog{})
	sizes(t, "no threads, but declarations", api.Prog{Decls: []api.Decl{{Kind: api.Var, Name: "x", N: 5}}})
	sizes(t, "no threads, in a list", api.Prog{Threads: [][]api.Stmt{}})
	sizes(t, "empty threads", api.Prog{Threads: [][]api.Stmt{nil, {}, long(2)[:0]}}, 0, 0, 0)
	var p api.Prog
	var want []int
	for k := range 300 {
		p.Threads, want = append(p.Threads, long(k%7)), append(want, k%7)
	}
	sizes(t, "300 threads", p, want...)
	// what is too great in one thread is not seen in the next
	sizes(t, "a great thread between small ones", api.Prog{Threads: [][]api.Stmt{long(1), {repeat(math.MaxInt, long(9)...)}, long(2)}}, 1, most, 2)
}

// TestProducts: at 2^31 - 1, below and above it, and past the greatest int.
func TestProducts(t *testing.T) {
	for _, c := range []struct{ n, body, want int }{
		{most, 1, most}, {1, 5000, 5000}, {most - 1, 1, most - 1}, {most + 1, 1, most}, {most + 2, 1, most}, {math.MaxInt, 1, most}, {math.MaxInt - 1, 1, most},
		{1<<30 - 1, 2, most - 1}, {1 << 30, 2, most}, {1<<30 + 1, 2, most}, {715827882, 3, most - 1}, {715827883, 3, most}, {429496729, 5, most - 2}, {429496730, 5, most},
		{1 << 20, 1 << 11, most}, {1<<20 - 1, 1 << 11, 1<<31 - 1<<11}, {46340, 46340, 2147395600}, {46341, 46341, most}, {46341, 46340, 2147441940},
		{1 << 32, 1 << 12, most}, {1 << 31, 1, most}, {1 << 32, 1, most}, {1<<32 + 1, 3, most}, {1 << 33, 2, most},
		// such as wrap round to nothing, to little, to less than none
		{1 << 62, 4, most}, {1 << 62, 2, most}, {1 << 62, 8, most}, {1<<62 + 1, 4, most}, {1<<61 + 1, 8, most}, {1 << 60, 16, most}, {1<<60 + 5, 16, most},
		{math.MaxInt, 2, most}, {math.MaxInt, 3, most}, {math.MaxInt/3 + 1, 3, most}, {math.MaxInt/5 + 1, 10, most},
		{0, 5000, 0}, {math.MinInt, 5000, 0}, {math.MinInt, 2, 0}, {math.MinInt + 1, 2, 0}, {-1 << 62, 4, 0}, {-most, 3, 0},
	} {
		sizes(t, fmt.Sprint(c.n, " times ", c.body), thread(repeat(c.n, long(c.body)...)), c.want)
	}
	for _, c := range []struct{ outer, inner, want int }{
		{1 << 15, 1 << 15, 1 << 30}, {1 << 15, 1 << 16, most}, {1 << 16, 1<<15 - 1, 1<<31 - 1<<16}, {46340, 46341, 2147441940}, {46341, 46341, most}, {1, most, most}, {most, 1, most}, {1, most - 1, most - 1}, {2, 1<<30 - 1, most - 1},
		{1 << 16, 1 << 16, most}, {1 << 32, 1 << 32, most}, {math.MaxInt, math.MaxInt, most}, {most, most, most}, {2, most, most}, {3, 1 << 62, most}, {0, math.MaxInt, 0}, {math.MaxInt, 0, 0}, {-1, math.MaxInt, 0}, {math.MaxInt, -1, 0}, {-1, -1, 0}, {math.MinInt, math.MinInt, 0},
	} {
		sizes(t, fmt.Sprint(c.outer, " times ", c.inner), thread(repeat(c.outer, repeat(c.inner, long(1)...))), c.want)
	}
}

// tower nests n repeats of nine around one lock.
func tower(n int) api.Stmt {
	s := long(1)[0]
	for range n {
		s = repeat(9, s)
	}
	return s
}

// TestTowers: repeats of nine within one another, as many as go into an int and many more.
func TestTowers(t *testing.T) {
	want := 1
	for n := range 100 {
		sizes(t, fmt.Sprint("a tower of ", n), thread(tower(n)), want)
		sizes(t, fmt.Sprint("a tower of ", n, ", never"), thread(repeat(0, tower(n))), 0)
		sizes(t, fmt.Sprint("a tower of ", n, ", never, and a lock"), thread(repeat(0, tower(n)), long(1)[0], repeat(-1, tower(n))), 1)
		sizes(t, fmt.Sprint("a tower of ", n, ", once"), thread(repeat(1, tower(n))), want)
		want = min(want*9, most)
	}
}

// TestGreatSums: sums at 2^31 - 1, below and above it, and past the greatest int.
func TestGreatSums(t *testing.T) {
	great := func(n int) api.Stmt { return repeat(n, long(1)...) }
	for _, c := range []struct {
		parts []int
		want  int
	}{
		{[]int{most, 0}, most}, {[]int{most - 1, 1}, most}, {[]int{1, most - 1}, most}, {[]int{most - 2, 1}, most - 1}, {[]int{1, most - 2}, most - 1}, {[]int{most, 1}, most}, {[]int{1, most}, most},
		{[]int{1 << 30, 1 << 30}, most}, {[]int{1 << 30, 1<<30 - 1}, most}, {[]int{1<<30 - 1, 1<<30 - 1}, most - 1}, {[]int{1 << 29, 1 << 30, 1 << 29}, most}, {[]int{1 << 29, 1 << 30, 1<<29 - 1}, most}, {[]int{1 << 29, 1 << 30, 1<<29 - 2}, most - 1},
		{[]int{most, most}, most}, {[]int{most, most, 2}, most}, {[]int{most, most, most, most, 4}, most}, {[]int{1, most, 1}, most},
		{[]int{math.MaxInt, 1}, most}, {[]int{1, math.MaxInt}, most}, {[]int{math.MaxInt, math.MaxInt}, most}, {[]int{math.MaxInt, math.MaxInt, 2}, most}, {[]int{math.MaxInt, math.MaxInt, 7}, most}, {[]int{math.MaxInt, 2, math.MaxInt}, most},
		{slices.Repeat([]int{1 << 62}, 4), most}, {append(slices.Repeat([]int{1 << 62}, 4), 5), most}, {slices.Repeat([]int{1 << 60}, 100), most}, {slices.Repeat([]int{1 << 24}, 127), 127 << 24}, {slices.Repeat([]int{1 << 24}, 128), most}, {slices.Repeat([]int{1 << 24}, 1000), most},
	} {
		var list []api.Stmt
		for _, n := range c.parts {
			list = append(list, great(n))
		}
		what := fmt.Sprintf("%v together", c.parts)
		sizes(t, what, thread(list...), c.want)
		sizes(t, what+", once", thread(repeat(1, list...)), c.want)
		sizes(t, what+", never", thread(repeat(0, list...), long(1)[0]), 1)
		sizes(t, what+", less than never", thread(long(1)[0], repeat(-1, list...)), 1)
		// what is reckoned of an If, in its Body and in its Else
		sizes(t, what+", in an If", thread(choice(list, nil)), min(c.want+2, most))
		sizes(t, what+", in an Else", thread(choice(nil, list)), min(c.want+3, most))
		sizes(t, what+", in both", thread(choice(list, list)), min(2*c.want+3, most))
	}
}

// TestGreatIf: what an If is itself brings it to 2^31 - 1, and past it.
func TestGreatIf(t *testing.T) {
	body := func(n int) []api.Stmt { return []api.Stmt{repeat(n, long(1)...)} }
	for _, less := range []int{0, 1, 2, 3, 4, 5} {
		sizes(t, fmt.Sprint("If, ", less), thread(choice(body(most-less), nil)), min(most-less+2, most))
		sizes(t, fmt.Sprint("If, ", less, ", an Else of no size"), thread(choice(body(most-less), []api.Stmt{{Kind: api.Label}})), min(most-less+3, most))
		sizes(t, fmt.Sprint("If, ", less, ", a short Else"), thread(choice(body(most-less), long(1))), min(most-less+4, most))
		sizes(t, fmt.Sprint("Else, ", less), thread(choice(long(1), body(most-less))), min(most-less+4, most))
		sizes(t, fmt.Sprint("both, ", less), thread(choice(body(1<<30), body(1<<30-less))), min(most+1-less+3, most))
	}
}

// TestMaxCode: threads of just MaxCode, and of one more, however they come to be so long.
func TestMaxCode(t *testing.T) {
	passes(t,
		"go { }", "go { } go { }", "go { label a }", "go { lock m }",
		"go { repeat 6 { repeat 5 { repeat 5 { x = 1 } } } }", "go { repeat 6 { repeat 5 { repeat 5 { x = 1 } } } label a repeat 0 { lock m } }",
		"go { repeat 9 { repeat 8 { recv c x recv c x } } repeat 6 { x = 1 } }",
		"go { if x { repeat 6 { repeat 7 { repeat 7 { lock m } } } } repeat 4 { lock m } }", "go { if x { repeat 6 { repeat 7 { repeat 7 { lock m } } } lock m } else { lock m lock m } }",
		"go { repeat 0 { repeat 9 { repeat 9 { repeat 9 { lock m } } } } }", "go { repeat 9 { repeat 9 { repeat 9 { label a } } } }",
		// all of them together are longer
		strings.Repeat("go { repeat 6 { repeat 5 { repeat 5 { x = 1 } } } }\n", api.MaxThreads),
		"go { repeat 9 { repeat 9 { lock m } } } go { repeat 9 { repeat 9 { repeat 3 { lock m } } } } go { repeat 9 { repeat 9 { lock m } } }",
	)
	refuses(t,
		"go { @repeat 6 { repeat 5 { repeat 5 { x = 1 } } } lock m }", "go { @lock m repeat 6 { repeat 5 { repeat 5 { x = 1 } } } }",
		"go { @if x { repeat 6 { repeat 7 { repeat 7 { lock m } } } } repeat 5 { lock m } }", "go { @if x { repeat 6 { repeat 7 { repeat 7 { lock m } } } lock m } else { lock m lock m lock m } }",
		"go { @repeat 9 { repeat 9 { repeat 9 { repeat 9 { repeat 9 { repeat 9 { repeat 9 { x = x + 1 } } } } } } } }",
	)
	for n := api.MaxCode - 3; n <= api.MaxCode; n++ {
		answers(t, fmt.Sprint(n, " locks"), thread(long(n)...), 0, api.OK)
	}
	for _, n := range []int{1, 2, 3, 300, 5000} {
		list := long(api.MaxCode + n)
		list[0].At = 7 + 8i
		answers(t, fmt.Sprint(api.MaxCode+n, " locks"), thread(list...), 7+8i, api.ErrSize)
	}
	for _, n := range []int{api.MaxCode + 1, most - 1, most, most + 1, 1 << 32, 1 << 62, math.MaxInt} {
		s := repeat(n, long(1)...)
		s.At = 5 + 2i
		answers(t, fmt.Sprint("repeat ", n), thread(s), 5+2i, api.ErrSize)
		answers(t, fmt.Sprint("repeat ", n, ", never"), thread(repeat(0, s)), 0, api.OK)
		answers(t, fmt.Sprint("repeat ", -n), thread(repeat(-n, long(1)...)), 0, api.OK)
	}
	s := repeat(1<<61+1, long(8)...)
	s.At = 2 + 2i
	answers(t, "what wraps round to 8", thread(s), 2+2i, api.ErrSize)
	answers(t, "no threads", api.Prog{}, 0, api.OK)
	answers(t, "empty threads", api.Prog{Threads: [][]api.Stmt{nil, {}}}, 0, api.OK)
}

// TestWhich: of more threads that are too long the first one is told.
func TestWhich(t *testing.T) {
	const over, just = "repeat 9 { repeat 9 { repeat 9 { lock m } } }", "repeat 6 { repeat 5 { repeat 5 { x = 1 } } }"
	refuses(t,
		"go { @"+over+" } go { "+over+" }", "go { lock m } go { @"+over+" } go { "+over+" }", "go { } go { } go { @"+over+" }", "go { "+just+" } go { @"+just+" lock m }",
		"go { @"+just+" lock m } go { "+over+" } go { }", "go { @"+over+" } go { lock m } go { } go { "+over+" }", "go { } go { "+just+" }\ngo {\n\t@"+just+" print 1\n}\ngo { "+over+" }",
		// the first one is told, though the other is longer, or as long
		"go { @"+just+" lock m } go { repeat 9 { "+over+" } }", "go { @"+just+" lock m } go { "+just+" lock m }",
		// declarations ahead of it
		"var x mutex m\nlocal y\ngo { @"+over+" }",
	)
}

// TestPlace: that of the thread's first statement, whatever that is, and whichever makes the thread too long.
func TestPlace(t *testing.T) {
	const over = "repeat 9 { repeat 9 { repeat 9 { lock m } } }"
	for _, first := range []string{"x = 1", "lock m", "unlock m", "send c 1", "recv c x", "print 1", "if x { }", "if x { lock m } else { lock m }", "repeat 0 { lock m }", "repeat 3 { }", "goto a", "label a"} {
		refuses(t, "go { @"+first+" "+over+" }", "go { @"+first+"\n\n"+over+" }", "go { }\ngo {\n  @"+first+"\n  lock m\n  if x { } else { "+over+" }\n  "+over+" }\n")
	}
	refuses(t, "go { @if x { lock m "+over+" } }", "go { @if x { } else { lock m "+over+" } }", "go { @repeat 1 { label a "+over+" } label b }")
	// places that no text has
	for _, at := range []complex128{0, 1, -1 - 1i, 1e300i, complex(math.Inf(1), 0), complex(0, math.Inf(-1))} {
		answers(t, "a place", thread(api.Stmt{Kind: api.Label, At: at}, repeat(301, long(1)...)), at, api.ErrSize)
	}
	got, e := bound.Check(thread(api.Stmt{At: complex(math.NaN(), 3)}, repeat(301, long(1)...)))
	if !math.IsNaN(real(got)) || imag(got) != 3 || e != api.ErrSize {
		t.Errorf("10.1: Check, of a place that is no number: %v, %d", got, e)
	}
}

// deepest is how deep trees nest at most.
const deepest = 1 << 10

// TestDeep: trees that nest as deep as R1 allows.
func TestDeep(t *testing.T) {
	e := name("x")
	for k := range deepest {
		if k%2 == 0 {
			e = op(api.Minus, e)
		} else {
			e = op(api.Add, num(1), e)
		}
	}
	const want = 1 + deepest/2 + 2*(deepest/2)
	if got := bound.Expr(e); got != want {
		t.Errorf("10.1: Expr of a deep tree: %d, not %d", got, want)
	}
	ifs, elses, once := []api.Stmt{{Kind: api.Print, E: e}}, []api.Stmt{{Kind: api.Print, E: e}}, []api.Stmt{{Kind: api.Print, E: e}}
	for range deepest {
		ifs, elses, once = []api.Stmt{choice(ifs, nil)}, []api.Stmt{choice(nil, elses)}, []api.Stmt{repeat(1, once...)}
	}
	sizes(t, "deep", api.Prog{Threads: [][]api.Stmt{ifs, elses, once, {tower(deepest)}}}, want+1+2*deepest, want+1+3*deepest, want+1, most)
	ifs[0].At = 9 + 9i
	answers(t, "deep", thread(ifs...), 9+9i, api.ErrSize)
}

// TestWide: long lists, in one block, in one expression, over many threads.
func TestWide(t *testing.T) {
	const n = 200000
	e := op(api.Add)
	for range n {
		e.Of = append(e.Of, num(1))
	}
	if got := bound.Expr(e); got != n+1 {
		t.Errorf("10.1: Expr of a wide tree: %d, not %d", got, n+1)
	}
	sizes(t, "wide", api.Prog{Threads: [][]api.Stmt{long(n), {{Kind: api.Print, E: e}}}}, n, n+2)
	p := api.Prog{Threads: make([][]api.Stmt, n)}
	p.Threads[n-1] = long(api.MaxCode + 1)
	p.Threads[n-1][0].At = 4 + 4i
	answers(t, "many threads", p, 4+4i, api.ErrSize)
}

// weight is what each thread of p is by chapter 10's words, with no bound: each statement's own instructions, as often as all repeats around it tell.
func weight(p api.Prog) []*big.Int {
	var list []*big.Int
	for _, block := range p.Threads {
		sum := new(big.Int)
		weigh(sum, block, big.NewInt(1))
		list = append(list, sum)
	}
	return list
}

func weigh(sum *big.Int, block []api.Stmt, often *big.Int) {
	for _, s := range block {
		sum.Add(sum, new(big.Int).Mul(often, big.NewInt(int64(own(s)))))
		switch s.Kind {
		case api.If:
			weigh(sum, s.Body, often)
			weigh(sum, s.Else, often)
		case api.Repeat:
			weigh(sum, s.Body, new(big.Int).Mul(often, big.NewInt(int64(max(s.N, 0)))))
		}
	}
}

// own is what a statement is without its Body and its Else.
func own(s api.Stmt) int {
	n := []int{api.Assign: 1, api.Lock: 1, api.Unlock: 1, api.Send: 1, api.Recv: 2, api.Print: 1, api.If: 1, api.Repeat: 0, api.Goto: 1, api.Label: 0}[s.Kind]
	if s.Kind == api.If && len(s.Else) != 0 {
		n++
	}
	if slices.Contains([]int{api.Assign, api.Send, api.Print, api.If}, s.Kind) {
		n += nodes(s.E)
	}
	return n
}

// nodes is how many numbers, names and operators e has.
func nodes(e api.Expr) int {
	n, left := 0, []api.Expr{e}
	for len(left) > 0 {
		last := left[len(left)-1]
		left = append(left[:len(left)-1], last.Of...)
		if last.Kind != 0 {
			n++
		}
	}
	return n
}

// told is a size as it is told.
func told(n *big.Int) int {
	if n.Cmp(big.NewInt(most)) > 0 {
		return most
	}
	return int(n.Int64())
}

// maker draws a tree by a fixed rule; each statement in it has a place of its own, and these are in no order.
type maker struct {
	draw  *rand.Rand
	at    int
	great bool // N of repeats may be any number, not such as texts have alone
}

func (m *maker) expr(deep int) api.Expr {
	if deep == 0 || m.draw.Intn(2) == 0 {
		return []api.Expr{num(m.draw.Intn(100)), name("x")}[m.draw.Intn(2)]
	}
	if m.draw.Intn(4) == 0 {
		return op(api.Minus, m.expr(deep-1))
	}
	return op(operators[m.draw.Intn(len(operators))], m.expr(deep-1), m.expr(deep-1))
}

func (m *maker) times() int {
	if !m.great || m.draw.Intn(2) == 0 {
		return m.draw.Intn(api.MaxRepeat + 1)
	}
	n := 1<<m.draw.Intn(63) + m.draw.Intn(5) - 2
	if m.draw.Intn(8) == 0 {
		return -n
	}
	return n
}

func (m *maker) block(deep int) []api.Stmt {
	var list []api.Stmt
	for m.draw.Intn(4) > 0 {
		list = append(list, m.statement(deep))
	}
	return list
}

func (m *maker) statement(deep int) api.Stmt {
	m.at++
	s := api.Stmt{Kind: api.Assign + m.draw.Intn(api.Label), Name: "x", Other: "y", N: m.times(), E: m.expr(3), At: complex(float64(m.at*7919%10007), 1)}
	if deep > 0 {
		if m.draw.Intn(2) == 0 {
			s.Kind = api.If + m.draw.Intn(2)
		}
		s.Body, s.Else = m.block(deep-1), m.block(deep-1)
	}
	return s
}

func (m *maker) program() api.Prog {
	var p api.Prog
	for range m.draw.Intn(4) {
		p.Threads = append(p.Threads, m.block(m.draw.Intn(4)))
	}
	return p
}

// plain is Check as chapter 10 has it.
func plain(p api.Prog) (complex128, api.Errno) {
	for k, n := range weight(p) {
		if n.Cmp(big.NewInt(api.MaxCode)) > 0 {
			return p.Threads[k][0].At, api.ErrSize
		}
	}
	return 0, api.OK
}

// against holds all that is told of p against the chapter's words, and tells the sizes.
func against(t *testing.T, p api.Prog) []int {
	t.Helper()
	var want []int
	for _, n := range weight(p) {
		want = append(want, told(n))
	}
	at, e := plain(p)
	sizes(t, "drawn", p, want...)
	answers(t, "drawn", p, at, e)
	for _, s := range tree.List(p) {
		if got, n := bound.Expr(s.E), nodes(s.E); got != n {
			t.Errorf("10.1: Expr(%+v): %d, not %d", s.E, got, n)
		}
	}
	if t.Failed() {
		t.Fatalf("so it is told of %+v", p)
	}
	return want
}

// TestManyPrograms: drawn programs, held against the chapter's words.
func TestManyPrograms(t *testing.T) {
	short, long, capped := 0, 0, 0
	for _, great := range []bool{false, true} {
		m := maker{draw: rand.New(rand.NewSource(10)), great: great}
		for range 1500 {
			for _, n := range against(t, m.program()) {
				switch {
				case n == most:
					capped++
				case n > api.MaxCode:
					long++
				case n > 0:
					short++
				}
			}
		}
	}
	if short < 1000 || long < 250 || capped < 250 {
		t.Errorf("only %d that are short, %d that are too long, %d above the bound", short, long, capped)
	}
}

// TestManySums: drawn sums and products of numbers around the bound, held against what they are without one.
func TestManySums(t *testing.T) {
	draw := rand.New(rand.NewSource(100))
	just := 0
	for range 3000 {
		left := most + draw.Intn(7) - 3
		var list []api.Stmt
		for range 1 + draw.Intn(5) {
			each, body := 1+draw.Intn(1+left/2), 1+draw.Intn(20)
			n := each / body
			list = append(list, repeat(n, long(body)...))
			left -= n * body
		}
		list = append(list, repeat(left, long(1)...))
		got := against(t, thread(list...))
		if got[0] == most-1 || got[0] == most {
			just++
		}
	}
	if just < 1000 {
		t.Errorf("only %d at the bound", just)
	}
}

// roomy is list with something in its spare room, and each list within it likewise.
func roomy(v reflect.Value) reflect.Value {
	switch v.Kind() {
	case reflect.Slice:
		list := reflect.MakeSlice(v.Type(), v.Len()+2, v.Len()+2)
		for k := range v.Len() {
			list.Index(k).Set(roomy(v.Index(k)))
		}
		for k := v.Len(); k < list.Len(); k++ {
			mark(list.Index(k))
		}
		return list.Slice(0, v.Len())
	case reflect.Struct:
		own := reflect.New(v.Type()).Elem()
		for k := range v.NumField() {
			own.Field(k).Set(roomy(v.Field(k)))
		}
		return own
	}
	return v
}

// mark fills in what would be counted, if spare room were gone through.
func mark(v reflect.Value) {
	switch v.Kind() {
	case reflect.Struct:
		v.FieldByName("Kind").SetInt(api.Lock)
	case reflect.Slice:
		v.Set(reflect.MakeSlice(v.Type(), 1, 1))
		mark(v.Index(0))
	}
}

// shown is all that v holds, the spare room of its lists included.
func shown(v reflect.Value) string {
	var b strings.Builder
	switch v.Kind() {
	case reflect.Slice:
		fmt.Fprintf(&b, "%d/%d[", v.Len(), v.Cap())
		for k := range v.Cap() {
			b.WriteString(shown(v.Slice(0, v.Cap()).Index(k)) + " ")
		}
		return b.String() + "]"
	case reflect.Struct:
		for k := range v.NumField() {
			b.WriteString(shown(v.Field(k)) + " ")
		}
		return "{" + b.String() + "}"
	}
	return fmt.Sprintf("%#v", v.Interface())
}

// TestHandedIn: the program that is handed in is as it was, spare room included, and that room is none of the program.
func TestHandedIn(t *testing.T) {
	m := maker{draw: rand.New(rand.NewSource(1000)), great: true}
	for range 40 {
		bare := m.program()
		p := roomy(reflect.ValueOf(bare)).Interface().(api.Prog)
		was := shown(reflect.ValueOf(p))
		want := against(t, bare)
		sizes(t, "a program with spare room", p, want...)
		at, e := plain(bare)
		answers(t, "a program with spare room", p, at, e)
		for _, block := range p.Threads {
			for _, s := range block {
				bound.Expr(s.E)
			}
		}
		if shown(reflect.ValueOf(p)) != was {
			t.Errorf("R2: Expr, Size or Check of %+v: the program is another one", bare)
		}
	}
}

// TestSameAgain: the same program tells the same, whatever was asked, and done with the answer, between.
func TestSameAgain(t *testing.T) {
	m := maker{draw: rand.New(rand.NewSource(10000)), great: true}
	for range 300 {
		p, other := m.program(), m.program()
		at, e := bound.Check(p)
		first := bound.Size(p)
		want := slices.Clone(first)
		bound.Check(other)
		second := bound.Size(other)
		for _, list := range [][]int{first[:cap(first)], second[:cap(second)]} {
			for k := range list {
				list[k] = -7
			}
		}
		sizes(t, "again", p, want...)
		sizes(t, "again", tree.Copy(p), want...)
		answers(t, "again", p, at, e)
		answers(t, "again", tree.Copy(p), at, e)
	}
}

// TestSharedLists: lists that stand at many places of a tree count at each of them.
func TestSharedLists(t *testing.T) {
	block := long(3)
	both := choice(block, block)
	sizes(t, "shared lists", api.Prog{Threads: [][]api.Stmt{block, {both, both}, {repeat(2, both), repeat(3, block...)}, block[:1]}}, 3, 18, 27, 1)
	parts := []api.Expr{name("x"), num(1)}
	e := op(api.Add, op(api.Mul, parts...), op(api.Mul, parts...))
	if got := bound.Expr(e); got != 7 {
		t.Errorf("10.1: Expr of shared lists: %d", got)
	}
}
