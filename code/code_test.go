package code_test

import (
	"fmt"
	"maps"
	"math"
	"math/rand"
	"reflect"
	"slices"
	"strconv"
	"strings"
	"testing"

	"suture/api"
	"suture/bound"
	"suture/code"
	"suture/jumps"
	"suture/names"
	"suture/parse"
	"suture/place"
	"suture/tree"
)

// one has one declaration of each kind, named by its first letter: v is 0, w 1, a 2, l 3, m 4, c 5.
const one = "var v wide w atomic a local l mutex m chan c 1\n"

// great is a Repeat of 729 instructions.
const great = "repeat 9 { repeat 9 { repeat 9 { lock m } } }"

func num(n int) api.Expr { return api.Expr{Kind: api.Number, N: n} }

func name(s string) api.Expr { return api.Expr{Kind: api.Name, Name: s} }

func op(kind int, parts ...api.Expr) api.Expr { return api.Expr{Kind: kind, Of: parts} }

func label(s string) api.Stmt { return api.Stmt{Kind: api.Label, Name: s} }

func jump(s string) api.Stmt { return api.Stmt{Kind: api.Goto, Name: s} }

func lock() api.Stmt { return api.Stmt{Kind: api.Lock, Name: "m"} }

func repeat(n int, body ...api.Stmt) api.Stmt {
	return api.Stmt{Kind: api.Repeat, N: n, Body: body}
}

// kinds is one declaration of each kind, named as in one.
func kinds() []api.Decl {
	return []api.Decl{
		{Kind: api.Var, Name: "v"}, {Kind: api.Wide, Name: "w"}, {Kind: api.Atomic, Name: "a"},
		{Kind: api.Local, Name: "l"}, {Kind: api.Mutex, Name: "m"}, {Kind: api.Chan, Name: "c", N: 1},
	}
}

// thread is a program of one declaration of each kind, and one thread.
func thread(list ...api.Stmt) api.Prog {
	return api.Prog{Decls: kinds(), Threads: [][]api.Stmt{list}}
}

func read(t *testing.T, s string) api.Prog {
	t.Helper()
	p, at, e := parse.Read(s)
	if e != api.OK {
		t.Fatalf("5.1: Read(%q): %v, %d", s, at, e)
	}
	return p
}

func lower(t *testing.T, what string, p api.Prog) api.Code {
	t.Helper()
	c, e := code.Lower(p)
	if e != api.OK {
		t.Fatalf("11.1: Lower(%.300s): %d", what, e)
	}
	return c
}

// list is the instructions of a text: of each, with commas between, its Site, what it does, and what it names.
func list(t *testing.T, s string) []api.Instr {
	t.Helper()
	ops := map[string]int{
		"Push": api.Push, "Load": api.Load, "Store": api.Store, "Op": api.Op, "Jump": api.Jump, "JumpIf0": api.JumpIf0,
		"Acquire": api.Acquire, "Release": api.Release, "Put": api.Put, "Take": api.Take, "Out": api.Out,
	}
	signs := map[string]int{"neg": api.Minus, "+": api.Add, "-": api.Sub, "*": api.Mul, "/": api.Div, "%": api.Mod, "<": api.Less, "==": api.Equal}
	var list []api.Instr
	for _, each := range strings.Split(s, ",") {
		word := strings.Fields(each)
		if len(word) == 0 {
			continue
		}
		site, e := strconv.Atoi(word[0])
		x := api.Instr{Op: ops[word[1]], Site: site}
		if e != nil || x.Op == 0 || (len(word) == 2) != (x.Op == api.Out) {
			t.Fatalf("%q is no instruction", each)
		}
		switch x.Op {
		case api.Out:
		case api.Op:
			x.Kind = signs[word[2]]
		case api.Push, api.Jump, api.JumpIf0:
			x.N, e = strconv.Atoi(word[2])
		default:
			x.A, e = strconv.Atoi(word[2])
		}
		if e != nil || x.Op == api.Op && x.Kind == 0 {
			t.Fatalf("%q is no instruction", each)
		}
		list = append(list, x)
	}
	return list
}

// becomes holds the instructions of all threads of p against want, and what 11.2 says of them.
func becomes(t *testing.T, what string, p api.Prog, want ...string) {
	t.Helper()
	c := lower(t, what, p)
	if len(c.Threads) != len(want) {
		t.Errorf("11.1: Lower(%.300s): %d threads, not %d", what, len(c.Threads), len(want))
		return
	}
	for k, s := range want {
		if list := list(t, s); !slices.Equal(c.Threads[k], list) {
			t.Errorf("11.1: Lower(%.300s), thread %d:\n%v\nnot\n%v", what, k, c.Threads[k], list)
		}
	}
	forward(t, what, p, c)
}

// forward holds what 11.2 says of p's code.
func forward(t *testing.T, what string, p api.Prog, c api.Code) {
	t.Helper()
	size := bound.Size(p)
	if len(size) != len(c.Threads) {
		t.Fatalf("11.2: Lower(%.300s): %d threads, not %d", what, len(c.Threads), len(size))
	}
	for k, list := range c.Threads {
		if len(list) != size[k] {
			t.Errorf("11.2: Lower(%.300s), thread %d: %d instructions, not %d", what, k, len(list), size[k])
		}
		for at, x := range list {
			if (x.Op == api.Jump || x.Op == api.JumpIf0) && (x.N <= at || x.N > len(list)) {
				t.Errorf("11.2: Lower(%.300s), thread %d: the jump at %d of %d goes to %d", what, k, at, len(list), x.N)
			}
		}
	}
}

// bodies holds the instructions of a thread of each text's statements, over one's declarations.
func bodies(t *testing.T, wants map[string]string) {
	t.Helper()
	for s, want := range wants {
		becomes(t, s, read(t, one+"go { "+s+" }"), want)
	}
}

// refuses holds that Check tells what stands behind the only @ of the text, with that error, and Lower that error alone.
func refuses(t *testing.T, s string, want api.Errno) {
	t.Helper()
	if strings.Count(s, "@") != 1 {
		t.Fatalf("%q has not one @", s)
	}
	spot := strings.Index(s, "@")
	s = s[:spot] + s[spot+1:]
	p := read(t, s)
	if at, e := code.Check(p); at != place.Of(s, spot) || e != want {
		t.Errorf("11.1: Check(%q): %v, %d, not %v, %d", s, at, e, place.Of(s, spot), want)
	}
	c, e := code.Lower(p)
	if e != want || c.Decls != nil || c.Threads != nil {
		t.Errorf("11.1: Lower(%q): %+v, %d, not %d alone", s, c, e, want)
	}
}

// TestExample: chapter 11's example.
func TestExample(t *testing.T) {
	const s = "if x { y = 1 }"
	becomes(t, s, read(t, "var x var y go { "+s+" }"), "0 Load 0, 0 JumpIf0 4, 1 Push 1, 1 Store 1")
}

// TestExpressions: numbers, names and each operator.
func TestExpressions(t *testing.T) {
	wants := map[string]string{
		"print 0": "0 Push 0, 0 Out", "print 1": "0 Push 1, 0 Out", "print 98765": "0 Push 98765, 0 Out",
		"print v": "0 Load 0, 0 Out", "print w": "0 Load 1, 0 Out", "print a": "0 Load 2, 0 Out", "print l": "0 Load 3, 0 Out",
		"print -v": "0 Load 0, 0 Op neg, 0 Out", "print -7": "0 Push 7, 0 Op neg, 0 Out", "print --7": "0 Push 7, 0 Op neg, 0 Op neg, 0 Out", "print ((w))": "0 Load 1, 0 Out",
	}
	for _, sign := range strings.Fields("+ - * / % < ==") {
		wants["print w "+sign+" 7"] = "0 Load 1, 0 Push 7, 0 Op " + sign + ", 0 Out"
		wants["print 7 "+sign+" w"] = "0 Push 7, 0 Load 1, 0 Op " + sign + ", 0 Out"
		wants["print v "+sign+" v"] = "0 Load 0, 0 Load 0, 0 Op " + sign + ", 0 Out"
		wants["print -(v "+sign+" 1)"] = "0 Load 0, 0 Push 1, 0 Op " + sign + ", 0 Op neg, 0 Out"
		wants["print -v "+sign+" -l"] = "0 Load 0, 0 Op neg, 0 Load 3, 0 Op neg, 0 Op " + sign + ", 0 Out"
	}
	bodies(t, wants)
}

// TestOperatorsWithin: what an operator is of comes ahead of it, from the left.
func TestOperatorsWithin(t *testing.T) {
	bodies(t, map[string]string{
		"print 1 + 2 + 3":                      "0 Push 1, 0 Push 2, 0 Op +, 0 Push 3, 0 Op +, 0 Out",
		"print 1 + (2 + 3)":                    "0 Push 1, 0 Push 2, 0 Push 3, 0 Op +, 0 Op +, 0 Out",
		"print 1 - 2 * 3":                      "0 Push 1, 0 Push 2, 0 Push 3, 0 Op *, 0 Op -, 0 Out",
		"print (1 - 2) * 3":                    "0 Push 1, 0 Push 2, 0 Op -, 0 Push 3, 0 Op *, 0 Out",
		"print (v < w) == (a % l)":             "0 Load 0, 0 Load 1, 0 Op <, 0 Load 2, 0 Load 3, 0 Op %, 0 Op ==, 0 Out",
		"print -(v / -(w - 1)) < 2":            "0 Load 0, 0 Load 1, 0 Push 1, 0 Op -, 0 Op neg, 0 Op /, 0 Op neg, 0 Push 2, 0 Op <, 0 Out",
		"print 1 * (2 * (3 * (4 * 5)))":        "0 Push 1, 0 Push 2, 0 Push 3, 0 Push 4, 0 Push 5, 0 Op *, 0 Op *, 0 Op *, 0 Op *, 0 Out",
		"print ((1 == 2) == (3 == 4)) == -l":   "0 Push 1, 0 Push 2, 0 Op ==, 0 Push 3, 0 Push 4, 0 Op ==, 0 Op ==, 0 Load 3, 0 Op neg, 0 Op ==, 0 Out",
		"v = v + 1 * w - -a / l % 2 + (v < 3)": "0 Load 0, 0 Push 1, 0 Load 1, 0 Op *, 0 Op +, 0 Load 2, 0 Op neg, 0 Load 3, 0 Op /, 0 Push 2, 0 Op %, 0 Op -, 0 Load 0, 0 Push 3, 0 Op <, 0 Op +, 0 Store 0",
	})
}

// TestStatements: each kind of statement alone, with each kind of what it may name.
func TestStatements(t *testing.T) {
	bodies(t, map[string]string{
		"v = 1": "0 Push 1, 0 Store 0", "w = v": "0 Load 0, 0 Store 1", "a = a": "0 Load 2, 0 Store 2", "l = w + 1": "0 Load 1, 0 Push 1, 0 Op +, 0 Store 3",
		"lock m": "0 Acquire 4", "unlock m": "0 Release 4", "send c 3": "0 Push 3, 0 Put 5", "send c v": "0 Load 0, 0 Put 5", "send c -l": "0 Load 3, 0 Op neg, 0 Put 5",
		"recv c v": "0 Take 5, 0 Store 0", "recv c w": "0 Take 5, 0 Store 1", "recv c a": "0 Take 5, 0 Store 2", "recv c l": "0 Take 5, 0 Store 3",
		"print 3": "0 Push 3, 0 Out", "print v < w": "0 Load 0, 0 Load 1, 0 Op <, 0 Out", "label v": "", "goto z label z": "0 Jump 1", "repeat 1 { }": "", "": "",
		"if 1 { }": "0 Push 1, 0 JumpIf0 2", "if l == 2 { }": "0 Load 3, 0 Push 2, 0 Op ==, 0 JumpIf0 4",
		// behind one another
		"v = 1 w = 2":                                           "0 Push 1, 0 Store 0, 1 Push 2, 1 Store 1",
		"lock m v = v + 1 unlock m":                             "0 Acquire 4, 1 Load 0, 1 Push 1, 1 Op +, 1 Store 0, 2 Release 4",
		"send c 1 recv c l print l":                             "0 Push 1, 0 Put 5, 1 Take 5, 1 Store 3, 2 Load 3, 2 Out",
		"label x label y lock m":                                "2 Acquire 4",
		"if v { } if w { } recv c a":                            "0 Load 0, 0 JumpIf0 2, 1 Load 1, 1 JumpIf0 4, 2 Take 5, 2 Store 2",
		"unlock m label x v = -1 goto y print 2 label y lock m": "0 Release 4, 2 Push 1, 2 Op neg, 2 Store 0, 3 Jump 7, 4 Push 2, 4 Out, 6 Acquire 4",
	})
}

// TestIfAlone: without an Else: on behind its Body.
func TestIfAlone(t *testing.T) {
	bodies(t, map[string]string{
		"if v { lock m }":                                   "0 Load 0, 0 JumpIf0 3, 1 Acquire 4",
		"if v { lock m } else { }":                          "0 Load 0, 0 JumpIf0 3, 1 Acquire 4",
		"if v { lock m } unlock m":                          "0 Load 0, 0 JumpIf0 3, 1 Acquire 4, 2 Release 4",
		"lock m if v { print 1 w = 2 } unlock m":            "0 Acquire 4, 1 Load 0, 1 JumpIf0 7, 2 Push 1, 2 Out, 3 Push 2, 3 Store 1, 4 Release 4",
		"if v { label x }":                                  "0 Load 0, 0 JumpIf0 2",
		"if v { label x } else { } lock m":                  "0 Load 0, 0 JumpIf0 2, 2 Acquire 4",
		"if v { if w { lock m } }":                          "0 Load 0, 0 JumpIf0 5, 1 Load 1, 1 JumpIf0 5, 2 Acquire 4",
		"if v { if w { lock m } unlock m } print 3":         "0 Load 0, 0 JumpIf0 6, 1 Load 1, 1 JumpIf0 5, 2 Acquire 4, 3 Release 4, 4 Push 3, 4 Out",
		"if 1 { if 2 { if 3 { if 4 { } } lock m } }":        "0 Push 1, 0 JumpIf0 9, 1 Push 2, 1 JumpIf0 9, 2 Push 3, 2 JumpIf0 8, 3 Push 4, 3 JumpIf0 8, 4 Acquire 4",
		"if v == w + 1 { lock m } if -v { unlock m } v = 1": "0 Load 0, 0 Load 1, 0 Push 1, 0 Op +, 0 Op ==, 0 JumpIf0 7, 1 Acquire 4, 2 Load 0, 2 Op neg, 2 JumpIf0 11, 3 Release 4, 4 Push 1, 4 Store 0",
	})
}

// TestElse: on behind the Jump that ends the Body; that goes on behind the Else.
func TestElse(t *testing.T) {
	bodies(t, map[string]string{
		"if v { } else { lock m }":                                                   "0 Load 0, 0 JumpIf0 3, 0 Jump 4, 1 Acquire 4",
		"if v { lock m } else { unlock m }":                                          "0 Load 0, 0 JumpIf0 4, 1 Acquire 4, 0 Jump 5, 2 Release 4",
		"if v { w = 1 } else { print 2 lock m } unlock m":                            "0 Load 0, 0 JumpIf0 5, 1 Push 1, 1 Store 1, 0 Jump 8, 2 Push 2, 2 Out, 3 Acquire 4, 4 Release 4",
		"if v { } else { label x }":                                                  "0 Load 0, 0 JumpIf0 3, 0 Jump 3",
		"if v { label y } else { label x } lock m":                                   "0 Load 0, 0 JumpIf0 3, 0 Jump 3, 3 Acquire 4",
		"if v { lock m } else { repeat 0 { lock m } } unlock m":                      "0 Load 0, 0 JumpIf0 4, 1 Acquire 4, 0 Jump 4, 4 Release 4",
		"if v { } else { if w { } else { lock m } }":                                 "0 Load 0, 0 JumpIf0 3, 0 Jump 7, 1 Load 1, 1 JumpIf0 6, 1 Jump 7, 2 Acquire 4",
		"if 1 { if 2 { lock m } else { unlock m } } else { if 3 { v = 4 } } print 5": "0 Push 1, 0 JumpIf0 8, 1 Push 2, 1 JumpIf0 6, 2 Acquire 4, 1 Jump 7, 3 Release 4, 0 Jump 12, 4 Push 3, 4 JumpIf0 12, 5 Push 4, 5 Store 0, 6 Push 5, 6 Out",
		"if v { if w { } } else { if a { } } if l { } else { lock m }":               "0 Load 0, 0 JumpIf0 5, 1 Load 1, 1 JumpIf0 4, 0 Jump 7, 2 Load 2, 2 JumpIf0 7, 3 Load 3, 3 JumpIf0 10, 3 Jump 11, 4 Acquire 4",
	})
}

// TestRepeat: its Body, N times; each copy has the same Sites, and jumps of its own.
func TestRepeat(t *testing.T) {
	bodies(t, map[string]string{
		"repeat 0 { lock m }":                        "",
		"repeat 0 { lock m print 1 } unlock m":       "3 Release 4",
		"repeat 1 { lock m }":                        "1 Acquire 4",
		"repeat 2 { lock m }":                        "1 Acquire 4, 1 Acquire 4",
		"v = 1 repeat 3 { lock m print 2 } unlock m": "0 Push 1, 0 Store 0, 2 Acquire 4, 3 Push 2, 3 Out, 2 Acquire 4, 3 Push 2, 3 Out, 2 Acquire 4, 3 Push 2, 3 Out, 4 Release 4",
		"repeat 9 { lock m }":                        strings.Repeat("1 Acquire 4,", 9),
		"repeat 9 { label x }":                       "", "repeat 9 { }": "", "repeat 9 { repeat 9 { repeat 0 { lock m } label x } } unlock m": "5 Release 4",
		// within repeats
		"repeat 2 { repeat 3 { lock m } unlock m }":             strings.Repeat("2 Acquire 4, 2 Acquire 4, 2 Acquire 4, 3 Release 4,", 2),
		"repeat 3 { lock m repeat 2 { unlock m } }":             strings.Repeat("1 Acquire 4, 3 Release 4, 3 Release 4,", 3),
		"repeat 2 { repeat 0 { lock m } print 1 }":              "3 Push 1, 3 Out, 3 Push 1, 3 Out",
		"repeat 0 { repeat 2 { lock m } } lock m":               "3 Acquire 4",
		"repeat 2 { repeat 2 { repeat 2 { lock m } print v } }": strings.Repeat("3 Acquire 4, 3 Acquire 4, 4 Load 0, 4 Out,", 4),
		// what holds an If
		"repeat 2 { if v { lock m } }":                          "1 Load 0, 1 JumpIf0 3, 2 Acquire 4, 1 Load 0, 1 JumpIf0 6, 2 Acquire 4",
		"repeat 2 { if v { lock m } unlock m } print 1":         "1 Load 0, 1 JumpIf0 3, 2 Acquire 4, 3 Release 4, 1 Load 0, 1 JumpIf0 7, 2 Acquire 4, 3 Release 4, 4 Push 1, 4 Out",
		"lock m repeat 2 { if v { } else { lock m } } unlock m": "0 Acquire 4, 2 Load 0, 2 JumpIf0 4, 2 Jump 5, 3 Acquire 4, 2 Load 0, 2 JumpIf0 8, 2 Jump 9, 3 Acquire 4, 4 Release 4",
		"repeat 2 { repeat 2 { if v { lock m } } }":             "2 Load 0, 2 JumpIf0 3, 3 Acquire 4, 2 Load 0, 2 JumpIf0 6, 3 Acquire 4, 2 Load 0, 2 JumpIf0 9, 3 Acquire 4, 2 Load 0, 2 JumpIf0 12, 3 Acquire 4",
		"repeat 3 { if v { } }":                                 "1 Load 0, 1 JumpIf0 2, 1 Load 0, 1 JumpIf0 4, 1 Load 0, 1 JumpIf0 6",
		// in an If
		"if v { repeat 2 { lock m } } else { repeat 2 { if w { } } }": "0 Load 0, 0 JumpIf0 5, 2 Acquire 4, 2 Acquire 4, 0 Jump 9, 4 Load 1, 4 JumpIf0 7, 4 Load 1, 4 JumpIf0 9",
		"if v { repeat 0 { lock m } } unlock m":                       "0 Load 0, 0 JumpIf0 2, 3 Release 4",
		// a number that is pushed is not moved with its copy
		"repeat 3 { print 4 }": strings.Repeat("1 Push 4, 1 Out,", 3),
	})
}

// TestGoto: to a label behind it, in its block and out of others.
func TestGoto(t *testing.T) {
	bodies(t, map[string]string{
		// in its block
		"goto x lock m label x unlock m":                 "0 Jump 2, 1 Acquire 4, 3 Release 4",
		"goto x label x lock m":                          "0 Jump 1, 2 Acquire 4",
		"goto y goto x label x lock m label y unlock m":  "0 Jump 3, 1 Jump 2, 3 Acquire 4, 5 Release 4",
		"goto x goto x lock m goto x label x unlock m":   "0 Jump 4, 1 Jump 4, 2 Acquire 4, 3 Jump 4, 5 Release 4",
		"goto x label y label x label z lock m":          "0 Jump 1, 4 Acquire 4",
		"goto x if v { label y lock m } label x print 1": "0 Jump 4, 1 Load 0, 1 JumpIf0 4, 3 Acquire 4, 5 Push 1, 5 Out",
		"if v { goto x lock m label x } unlock m":        "0 Load 0, 0 JumpIf0 4, 1 Jump 4, 2 Acquire 4, 4 Release 4",
		// at the thread's end: its length
		"goto x label x":                                          "0 Jump 1",
		"goto x lock m label x":                                   "0 Jump 2, 1 Acquire 4",
		"if v { goto x } else { goto x } lock m label x":          "0 Load 0, 0 JumpIf0 4, 1 Jump 6, 0 Jump 5, 2 Jump 6, 3 Acquire 4",
		"repeat 2 { goto x } label x repeat 0 { lock m } label y": "1 Jump 2, 1 Jump 2",
		"if v { goto x lock m label x }":                          "0 Load 0, 0 JumpIf0 4, 1 Jump 4, 2 Acquire 4",
		// out of an If, an Else, out of several
		"if v { goto x } lock m label x unlock m":                         "0 Load 0, 0 JumpIf0 3, 1 Jump 4, 2 Acquire 4, 4 Release 4",
		"if v { } else { goto x } lock m label x unlock m":                "0 Load 0, 0 JumpIf0 3, 0 Jump 4, 1 Jump 5, 2 Acquire 4, 4 Release 4",
		"if v { if w { goto x } lock m label x } unlock m":                "0 Load 0, 0 JumpIf0 6, 1 Load 1, 1 JumpIf0 5, 2 Jump 6, 3 Acquire 4, 5 Release 4",
		"if v { if w { } else { goto x } lock m } print 1 label x lock m": "0 Load 0, 0 JumpIf0 7, 1 Load 1, 1 JumpIf0 5, 1 Jump 6, 2 Jump 9, 3 Acquire 4, 4 Push 1, 4 Out, 6 Acquire 4",
	})
}

// TestGotoRepeated: to the label's place in the same copy of what is repeated around both.
func TestGotoRepeated(t *testing.T) {
	bodies(t, map[string]string{
		// out of a Repeat: each copy has its own jump, all to one place
		"repeat 3 { goto x lock m } unlock m label x print 1": "1 Jump 7, 2 Acquire 4, 1 Jump 7, 2 Acquire 4, 1 Jump 7, 2 Acquire 4, 3 Release 4, 5 Push 1, 5 Out",
		"repeat 2 { if v { goto x } } lock m label x":         "1 Load 0, 1 JumpIf0 3, 2 Jump 7, 1 Load 0, 1 JumpIf0 6, 2 Jump 7, 3 Acquire 4",
		"repeat 2 { repeat 2 { goto x } } lock m label x":     "2 Jump 5, 2 Jump 5, 2 Jump 5, 2 Jump 5, 3 Acquire 4",
		"repeat 1 { goto x } lock m label x":                  "1 Jump 2, 2 Acquire 4",
		"repeat 0 { goto x } lock m label x unlock m":         "2 Acquire 4, 4 Release 4",
		// within the same repeated body
		"repeat 2 { goto x lock m label x unlock m }":         "1 Jump 2, 2 Acquire 4, 4 Release 4, 1 Jump 5, 2 Acquire 4, 4 Release 4",
		"repeat 3 { goto x lock m label x }":                  "1 Jump 2, 2 Acquire 4, 1 Jump 4, 2 Acquire 4, 1 Jump 6, 2 Acquire 4",
		"repeat 2 { if v { goto x } lock m label x } print 1": "1 Load 0, 1 JumpIf0 3, 2 Jump 4, 3 Acquire 4, 1 Load 0, 1 JumpIf0 7, 2 Jump 8, 3 Acquire 4, 5 Push 1, 5 Out",
		// out of the inner Repeat, within the outer one
		"repeat 2 { repeat 2 { goto x } lock m label x unlock m }":        "2 Jump 3, 2 Jump 3, 3 Acquire 4, 5 Release 4, 2 Jump 7, 2 Jump 7, 3 Acquire 4, 5 Release 4",
		"repeat 2 { repeat 2 { goto x lock m } label x }":                 "2 Jump 4, 3 Acquire 4, 2 Jump 4, 3 Acquire 4, 2 Jump 8, 3 Acquire 4, 2 Jump 8, 3 Acquire 4",
		"print 1 repeat 2 { repeat 2 { goto x goto y label y } label x }": "0 Push 1, 0 Out, 3 Jump 6, 4 Jump 4, 3 Jump 6, 4 Jump 6, 3 Jump 10, 4 Jump 8, 3 Jump 10, 4 Jump 10",
		// both at once
		"repeat 2 { goto x goto y label x lock m } unlock m label y": "1 Jump 2, 2 Jump 7, 4 Acquire 4, 1 Jump 5, 2 Jump 7, 4 Acquire 4, 5 Release 4",
		// labels of one name in two threads are two
	})
	becomes(t, "two threads", read(t, one+"go { goto x label x lock m } go { goto x lock m label x } go { repeat 2 { goto x } lock m label x }"),
		"0 Jump 1, 2 Acquire 4", "3 Jump 2, 4 Acquire 4", "7 Jump 3, 7 Jump 3, 8 Acquire 4")
}

// TestSites: statements are numbered through all threads, whether they become instructions or not.
func TestSites(t *testing.T) {
	becomes(t, "threads", read(t, one+"go { lock m unlock m } go { lock m } go { } go { print 1 lock m }"),
		"0 Acquire 4, 1 Release 4", "2 Acquire 4", "", "3 Push 1, 3 Out, 4 Acquire 4")
	becomes(t, "blocks", read(t, one+"go { if v { lock m } else { label x unlock m } repeat 2 { lock m } } go { lock m repeat 2 { unlock m print 3 } lock m }"),
		"0 Load 0, 0 JumpIf0 4, 1 Acquire 4, 0 Jump 5, 3 Release 4, 5 Acquire 4, 5 Acquire 4",
		"6 Acquire 4, 8 Release 4, 9 Push 3, 9 Out, 8 Release 4, 9 Push 3, 9 Out, 10 Acquire 4")
	becomes(t, "never", read(t, one+"go { repeat 0 { lock m if v { label x } else { repeat 4 { goto y lock m label y } } } } go { label z unlock m }"),
		"", "9 Release 4")
	becomes(t, "empty blocks", read(t, one+"go { if v { } else { } repeat 3 { } repeat 2 { label x } } go { label x } go { recv c l }"),
		"0 Load 0, 0 JumpIf0 2", "", "5 Take 5, 5 Store 3")
}

// TestNumbers: A is the number of the declaration, wherever it stands.
func TestNumbers(t *testing.T) {
	p := read(t, "chan c 0 local l mutex m var b var a mutex n chan d 3 wide z atomic y go { a = b + l * z - y b = 1 l = 1 z = 1 y = 1 lock m unlock n send d a recv c b recv d y }")
	becomes(t, "numbers", p, "0 Load 3, 0 Load 1, 0 Load 7, 0 Op *, 0 Op +, 0 Load 8, 0 Op -, 0 Store 4, 1 Push 1, 1 Store 3, 2 Push 1, 2 Store 1, 3 Push 1, 3 Store 7, 4 Push 1, 4 Store 8, "+
		"5 Acquire 2, 6 Release 5, 7 Load 4, 7 Put 6, 8 Take 0, 8 Store 3, 9 Take 6, 9 Store 8")
	var s strings.Builder
	for k := range api.MaxDecls {
		s.WriteString("var n" + strconv.Itoa(k) + " ")
	}
	want := ""
	s.WriteString("go { ")
	for k := range api.MaxDecls {
		s.WriteString("print n" + strconv.Itoa(k) + " ")
		want += fmt.Sprintf("%d Load %d, %d Out,", k, k, k)
	}
	becomes(t, "as many as may be", read(t, s.String()+"}"), want)
}

// TestNothing: threads without statements, programs without threads, without declarations.
func TestNothing(t *testing.T) {
	becomes(t, "an empty thread", read(t, "go { }"), "")
	becomes(t, "empty threads", read(t, one+"go { } go { lock m } go { } go { label x }"), "", "0 Acquire 4", "", "")
	becomes(t, "no declarations", read(t, "go { print 1 } go { if 2 { goto x } print -3 label x }"),
		"0 Push 1, 0 Out", "1 Push 2, 1 JumpIf0 3, 2 Jump 6, 3 Push 3, 3 Op neg, 3 Out")
	for k, p := range []api.Prog{{}, {Decls: []api.Decl{}, Threads: [][]api.Stmt{}}, {Decls: kinds()}, {Decls: kinds(), Threads: [][]api.Stmt{}}} {
		becomes(t, fmt.Sprint("program ", k), p)
	}
	becomes(t, "lists of nothing", api.Prog{Threads: [][]api.Stmt{nil, {}, {{}}, {{Kind: api.Repeat, N: 3, Body: []api.Stmt{}}}}}, "", "", "", "")
	for k, p := range []api.Prog{{}, thread(), {Threads: [][]api.Stmt{nil, {}}}} {
		if at, e := code.Check(p); at != 0 || e != api.OK {
			t.Errorf("11.1: Check(program %d): %v, %d", k, at, e)
		}
	}
}

// TestDecls: Lower answers the declarations, as they are and where they are.
func TestDecls(t *testing.T) {
	for _, s := range []string{"go { }", one + "go { }", "chan a 0 go { }", "var x\n\n\tmutex y chan\nz 3 go { x = 1 }"} {
		p := read(t, s)
		if c := lower(t, s, p); !slices.Equal(c.Decls, p.Decls) {
			t.Errorf("11.1: Lower(%q): declarations %+v, not %+v", s, c.Decls, p.Decls)
		}
	}
	odd := []api.Decl{{}, {Kind: 77, Name: "A b", N: -4, At: -1}, {Kind: -3, Name: "\xff", N: math.MinInt, At: 3 + 4i}}
	if c := lower(t, "odd declarations", api.Prog{Decls: odd}); !slices.Equal(c.Decls, odd) {
		t.Errorf("11.1: Lower: declarations %+v, not %+v", c.Decls, odd)
	}
}

// TestGood: Check of what is good.
func TestGood(t *testing.T) {
	for _, s := range []string{
		"go { }", one + "go { }", one + "go { v = 1 lock m unlock m send c 1 recv c l print w if a { goto x } else { v = 1 } repeat 3 { w = 1 } label x }",
		one + "go { goto x label x } go { goto x label x } go { label x }", "var x go { repeat 6 { repeat 5 { repeat 5 { x = 1 } } } }",
		one + "go { repeat 9 { repeat 9 { lock m } } } go { repeat 9 { repeat 9 { lock m } } } go { repeat 9 { repeat 9 { lock m } } } go { repeat 9 { repeat 9 { lock m } } }",
		one + "go { repeat 0 { " + great + " } }",
	} {
		p := read(t, s)
		if at, e := code.Check(p); at != 0 || e != api.OK {
			t.Errorf("11.1: Check(%q): %v, %d", s, at, e)
		}
		forward(t, s, p, lower(t, s, p))
	}
}

// TestEachFault: a fault alone, of each kind.
func TestEachFault(t *testing.T) {
	for s, want := range map[string]api.Errno{
		"var x @wide x go { }": api.ErrName, "go { @x = 1 }": api.ErrName, one + "go { lock m } go { if v { @v = m } }": api.ErrName, one + "go { @lock v }": api.ErrName, one + "go { repeat 0 { @recv v c } }": api.ErrName,
		"go { @goto x }": api.ErrJump, "go { label x @goto x }": api.ErrJump, "go { label x @label x }": api.ErrJump, one + "go { if v { @goto x } else { label x } }": api.ErrJump, "go { label x } go { repeat 0 { @goto x } }": api.ErrJump,
		one + "go { @" + great + " }": api.ErrSize, one + "go { } go { @label x lock m " + great + " }": api.ErrSize, one + "go { repeat 9 { repeat 9 { lock m } } } go { @lock m " + great + " } go { " + great + " }": api.ErrSize,
	} {
		refuses(t, s, want)
	}
}

// TestOrder: of several faults the first kind is told, in whatever order they stand: a name, then a jump, then a size.
func TestOrder(t *testing.T) {
	const wrong, lost = "lock v", "goto z"
	faults := map[string]string{"n": wrong, "j": lost, "s": great}
	marks := map[string]api.Errno{"n": api.ErrName, "j": api.ErrJump, "s": api.ErrSize}
	for _, order := range []string{"nj", "jn", "ns", "sn", "js", "sj", "njs", "nsj", "jns", "jsn", "snj", "sjn"} {
		told := "s"
		for _, first := range []string{"j", "n"} {
			if strings.Contains(order, first) {
				told = first
			}
		}
		for _, between := range []string{" ", " v = 1 ", " } go { ", " label q } go { lock m "} {
			var b strings.Builder
			b.WriteString(one + "go { ")
			for k, each := range strings.Split(order, "") {
				if k > 0 {
					b.WriteString(between)
				}
				// a size is told at the first statement of its thread
				if each == told && each != "s" {
					b.WriteString("@")
				}
				b.WriteString(faults[each])
			}
			b.WriteString(" }")
			refuses(t, b.String(), marks[told])
		}
	}
	// a declaration that is twice comes ahead of all else
	refuses(t, "var x mutex m @var x go { goto z y = 1 "+great+" }", api.ErrName)
	refuses(t, "var x mutex m @var x go { label a label a }", api.ErrName)
}

// TestLongest: at MaxCode, and one more.
func TestLongest(t *testing.T) {
	for n := api.MaxCode - 2; n <= api.MaxCode; n++ {
		p := thread(slices.Repeat([]api.Stmt{lock()}, n)...)
		if c := lower(t, fmt.Sprint(n, " locks"), p); len(c.Threads[0]) != n || c.Threads[0][n-1] != (api.Instr{Op: api.Acquire, A: 4, Site: n - 1}) {
			t.Errorf("11.1: Lower(%d locks): %d instructions", n, len(c.Threads[0]))
		}
	}
	for _, p := range []api.Prog{thread(slices.Repeat([]api.Stmt{lock()}, api.MaxCode+1)...), thread(repeat(api.MaxCode+1, lock())), thread(repeat(math.MaxInt, lock())), thread(repeat(1<<62, repeat(1<<62, lock(), lock())))} {
		p.Threads[0][0].At = 3 + 9i
		at, e := code.Check(p)
		c, f := code.Lower(p)
		if at != 3+9i || e != api.ErrSize || f != api.ErrSize || c.Decls != nil || c.Threads != nil {
			t.Errorf("11.1: too long: Check: %v, %d; Lower: %+v, %d", at, e, c, f)
		}
	}
	c := lower(t, "a repeat of 300", thread(repeat(api.MaxCode, lock())))
	if want := slices.Repeat([]api.Instr{{Op: api.Acquire, A: 4, Site: 1}}, api.MaxCode); !slices.Equal(c.Threads[0], want) {
		t.Errorf("11.1: a repeat of 300: %v", c.Threads[0])
	}
}

// TestGreatNothing: repeats of nothing take no time, however often they are.
func TestGreatNothing(t *testing.T) {
	for _, n := range []int{1 << 62, math.MaxInt, 1 << 31} {
		inner := repeat(n, label("x"), repeat(n, repeat(n), label("y")), repeat(0, lock(), jump("z")), label("z"))
		becomes(t, "nothing", thread(repeat(n)), "")
		becomes(t, "nothing within nothing", thread(inner, lock()), "9 Acquire 4")
		becomes(t, "nothing, twice, beside something", thread(repeat(2, inner, lock())), "10 Acquire 4, 10 Acquire 4")
		// never, however much there is in it
		big := repeat(n, repeat(n, lock(), jump("z"), label("z")), label("x"))
		for _, m := range []int{0, -1, math.MinInt} {
			becomes(t, "never", thread(repeat(m, big), lock()), "7 Acquire 4")
			becomes(t, "never, twice", thread(repeat(2, lock(), repeat(m, big))), "1 Acquire 4, 1 Acquire 4")
			becomes(t, "never, within", thread(repeat(n, repeat(m, big)), lock()), "8 Acquire 4")
		}
	}
}

// TestNumbersPushed: whatever number a tree holds is pushed.
func TestNumbersPushed(t *testing.T) {
	for _, n := range []int{0, -1, 1 << 31, math.MaxInt, math.MinInt} {
		becomes(t, "a number", thread(repeat(2, api.Stmt{Kind: api.Send, Name: "c", E: num(n)})), fmt.Sprintf("1 Push %d, 1 Put 5, 1 Push %d, 1 Put 5", n, n))
	}
}

// TestOtherFields: what the kind of a statement, or an expression, has no use for is in no instruction.
func TestOtherFields(t *testing.T) {
	full := api.Stmt{Name: "v", Other: "w", N: 2, E: api.Expr{Kind: api.Number, Name: "a", N: 3}, At: 9 + 9i}
	for kind, want := range map[int]string{
		api.Assign: "0 Push 3, 0 Store 0", api.Print: "0 Push 3, 0 Out", api.If: "0 Push 3, 0 JumpIf0 2", api.Repeat: "", api.Label: "", 0: "", -1: "", 11: "", math.MaxInt: "", math.MinInt: "",
	} {
		s := full
		s.Kind = kind
		becomes(t, fmt.Sprint("kind ", kind), thread(s), want)
	}
	for kind, want := range map[int]string{api.Lock: "0 Acquire 4", api.Unlock: "0 Release 4"} {
		s := full
		s.Kind, s.Name = kind, "m"
		becomes(t, fmt.Sprint("kind ", kind), thread(s), want)
	}
	for kind, want := range map[int]string{api.Send: "0 Push 3, 0 Put 5", api.Recv: "0 Take 5, 0 Store 1"} {
		s := full
		s.Kind, s.Name = kind, "c"
		becomes(t, fmt.Sprint("kind ", kind), thread(s), want)
	}
	s := full
	s.Kind = api.Goto
	becomes(t, "a goto", thread(s, label("v")), "0 Jump 1")
	becomes(t, "a name with a number", thread(api.Stmt{Kind: api.Print, E: api.Expr{Kind: api.Name, Name: "w", N: 5}}), "0 Load 1, 0 Out")
	becomes(t, "an operator with a name and a number", thread(api.Stmt{Kind: api.Print, E: api.Expr{Kind: api.Minus, Name: "w", N: 5, Of: []api.Expr{num(1)}}}), "0 Push 1, 0 Op neg, 0 Out")
}

// TestOddExpressions: of trees that no text has there are as many instructions as bound says: what is no number, name or operator is none, what it is of is some.
func TestOddExpressions(t *testing.T) {
	both := []api.Expr{name("v"), num(1)}
	for _, c := range []struct {
		e    api.Expr
		want string
	}{
		{api.Expr{}, ""}, {api.Expr{Kind: 11}, ""}, {api.Expr{Kind: math.MinInt, N: 4}, ""}, {api.Expr{Of: both}, "0 Load 0, 0 Push 1,"}, {api.Expr{Kind: 11, Of: both}, "0 Load 0, 0 Push 1,"},
		{op(api.Add), "0 Op +,"}, {op(api.Minus, both...), "0 Load 0, 0 Push 1, 0 Op neg,"}, {op(api.Less, name("v")), "0 Load 0, 0 Op <,"}, {op(api.Mul, num(1), num(2), num(3)), "0 Push 1, 0 Push 2, 0 Push 3, 0 Op *,"},
	} {
		becomes(t, fmt.Sprintf("%+v", c.e), thread(api.Stmt{Kind: api.Print, E: c.e}), c.want+"0 Out")
	}
	for _, kind := range []int{api.Number, api.Name} {
		p := thread(api.Stmt{Kind: api.Print, E: api.Expr{Kind: kind, Name: "w", Of: both}})
		forward(t, "what a number or a name is of", p, lower(t, "what a number or a name is of", p))
	}
}

// TestOddBlocks: a Body or Else of what is no If, and an Else of a Repeat, have numbers, but no instructions.
func TestOddBlocks(t *testing.T) {
	body := []api.Stmt{lock(), {Kind: api.If, E: num(1), Body: []api.Stmt{jump("in")}}, label("in")}
	other := []api.Stmt{jump("out"), repeat(1<<62, lock())}
	for kind, want := range map[int]string{
		api.Assign: "0 Push 1, 0 Store 0", api.Print: "0 Push 1, 0 Out", api.Lock: "0 Acquire 4", api.Unlock: "0 Release 4", api.Send: "0 Push 1, 0 Put 5", api.Recv: "0 Take 5, 0 Store 0",
		api.Label: "", 0: "", -1: "", 11: "", math.MinInt: "",
	} {
		s := api.Stmt{Kind: kind, Name: "v", Other: "v", E: num(1), Body: body, Else: other}
		switch kind {
		case api.Lock, api.Unlock:
			s.Name = "m"
		case api.Send, api.Recv:
			s.Name = "c"
		}
		becomes(t, fmt.Sprint("kind ", kind), thread(s, label("out"), lock()), want+", 9 Acquire 4")
		becomes(t, fmt.Sprint("kind ", kind, ", twice"), thread(repeat(2, s), label("out")), strings.Repeat(strings.ReplaceAll(want, "0 ", "1 ")+",", 2))
	}
	becomes(t, "a Goto", thread(api.Stmt{Kind: api.Goto, Name: "out", Body: body, Else: other}, lock(), label("out"), lock()), "0 Jump 2, 8 Acquire 4, 10 Acquire 4")
	becomes(t, "a Repeat", thread(api.Stmt{Kind: api.Repeat, N: 2, Body: []api.Stmt{lock()}, Else: other}, label("out"), lock()), "1 Acquire 4, 1 Acquire 4, 6 Acquire 4")
	becomes(t, "a Repeat, never", thread(api.Stmt{Kind: api.Repeat, Body: body, Else: other}, label("out"), lock()), "9 Acquire 4")
}

// TestOddNames: names that no text has are found as they stand.
func TestOddNames(t *testing.T) {
	p := api.Prog{
		Decls:   []api.Decl{{Kind: api.Mutex, Name: "lock"}, {Kind: api.Wide, Name: ""}, {Kind: api.Local, Name: "\xff"}, {Kind: 0, Name: "none"}, {Kind: api.Chan, Name: "A b", N: -7}},
		Threads: [][]api.Stmt{{{Kind: api.Lock, Name: "lock"}, {Kind: api.Assign, E: name("\xff")}, {Kind: api.Recv, Name: "A b", Other: "\xff"}, {Kind: api.Goto}, label("\xfe"), label("")}},
	}
	becomes(t, "odd names", p, "0 Acquire 0, 1 Load 2, 1 Store 1, 2 Take 4, 2 Store 2, 3 Jump 6")
}

// TestSame: alike, and other in one thing each.
func TestSame(t *testing.T) {
	fresh := func() api.Code {
		return api.Code{
			Decls: []api.Decl{{Kind: api.Var, Name: "x", N: 0, At: 1 + 1i}, {Kind: api.Chan, Name: "y", N: 1, At: 1 + 7i}},
			Threads: [][]api.Instr{
				{{Op: api.Push, N: 3, Site: 1}, {Op: api.Put, A: 1, Site: 1}},
				{},
				{{Op: api.Load, A: 0, N: 5, Kind: 6, Site: 7}, {Op: api.Op, Kind: api.Add, Site: 2}, {Op: api.Out, Site: 4}},
			},
		}
	}
	alike := map[string]func(c *api.Code){
		"nothing":       func(c *api.Code) {},
		"places":        func(c *api.Code) { c.Decls[0].At, c.Decls[1].At = 9+4i, complex(math.NaN(), math.Inf(1)) },
		"nil":           func(c *api.Code) { c.Threads[1] = nil },
		"spare room":    func(c *api.Code) { c.Threads[2] = append(c.Threads[2], api.Instr{})[:3] },
		"spare threads": func(c *api.Code) { c.Threads, c.Decls = append(c.Threads, nil)[:3], append(c.Decls, api.Decl{})[:2] },
	}
	for what, change := range alike {
		b := fresh()
		change(&b)
		if !code.Same(fresh(), b) || !code.Same(b, fresh()) || !code.Same(b, b) {
			t.Errorf("11.1: Same, other in %s: false", what)
		}
	}
	others := map[string]func(c *api.Code){
		"a declaration's kind": func(c *api.Code) { c.Decls[0].Kind = api.Wide }, "a declaration's name": func(c *api.Code) { c.Decls[1].Name = "z" },
		"a declaration's number": func(c *api.Code) { c.Decls[1].N = 2 }, "a var's number": func(c *api.Code) { c.Decls[0].N = 1 },
		"fewer declarations": func(c *api.Code) { c.Decls = c.Decls[:1] }, "no declarations": func(c *api.Code) { c.Decls = nil },
		"the declarations' order": func(c *api.Code) { slices.Reverse(c.Decls) }, "more declarations": func(c *api.Code) { c.Decls = append(c.Decls, api.Decl{}) },
		"fewer threads": func(c *api.Code) { c.Threads = c.Threads[:2] }, "no threads": func(c *api.Code) { c.Threads = nil }, "an empty thread more": func(c *api.Code) { c.Threads = append(c.Threads, nil) },
		"the threads' order": func(c *api.Code) { slices.Reverse(c.Threads) }, "fewer instructions": func(c *api.Code) { c.Threads[2] = c.Threads[2][:2] }, "an instruction fewer ahead": func(c *api.Code) { c.Threads[2] = c.Threads[2][1:] },
		"no instructions": func(c *api.Code) { c.Threads[0] = nil }, "more instructions": func(c *api.Code) { c.Threads[1] = append(c.Threads[1], api.Instr{}) }, "the instructions' order": func(c *api.Code) { slices.Reverse(c.Threads[2]) },
	}
	for k := range 3 {
		for _, by := range []int{-1, 1, math.MinInt} {
			each := fmt.Sprintf(" of instruction %d, by %d", k, by)
			others["Op"+each] = func(c *api.Code) { c.Threads[2][k].Op += by }
			others["N"+each] = func(c *api.Code) { c.Threads[2][k].N += by }
			others["A"+each] = func(c *api.Code) { c.Threads[2][k].A += by }
			others["Kind"+each] = func(c *api.Code) { c.Threads[2][k].Kind += by }
			others["Site"+each] = func(c *api.Code) { c.Threads[2][k].Site += by }
		}
	}
	for what, change := range others {
		b := fresh()
		change(&b)
		if code.Same(fresh(), b) || code.Same(b, fresh()) {
			t.Errorf("11.1: Same, other in %s: true", what)
		}
	}
	if !code.Same(api.Code{}, api.Code{}) || !code.Same(api.Code{}, api.Code{Decls: []api.Decl{}, Threads: [][]api.Instr{}}) || code.Same(api.Code{}, api.Code{Threads: [][]api.Instr{nil}}) {
		t.Error("11.1: Same of nothing")
	}
}

// TestSameTexts: codes of texts.
func TestSameTexts(t *testing.T) {
	of := func(s string) api.Code { return lower(t, s, read(t, s)) }
	a := of("var x mutex m go { lock m x = 1 unlock m if x { print 2 } }")
	for s, want := range map[string]bool{
		"var x\nmutex m\ngo {\n\tlock m x=(1)\nunlock m if ((x)) { print 2 } else { } # as it was\n}": true,
		"var x mutex m go { lock m x = 2 unlock m if x { print 2 } }":                                 false,
		"wide x mutex m go { lock m x = 1 unlock m if x { print 2 } }":                                false,
		"var y mutex m go { lock m y = 1 unlock m if y { print 2 } }":                                 false,
		"mutex m var x go { lock m x = 1 unlock m if x { print 2 } }":                                 false,
		"var x mutex m go { lock m x = 1 unlock m if x { print 2 } label a }":                         true,
		"var x mutex m go { lock m x = 1 unlock m label a if x { print 2 } }":                         false,
		"var x mutex m go { lock m x = 1 unlock m if x { print 2 } } go { }":                          false,
		"var x mutex m go { lock m x = 1 unlock m if x { } print 2 }":                                 false,
		"var x mutex m var y go { lock m x = 1 unlock m if x { print 2 } }":                           false,
	} {
		if b := of(s); code.Same(a, b) != want || code.Same(b, a) != want {
			t.Errorf("11.1: Same, %q: %v", s, !want)
		}
	}
}

// spot is where a label stands in one copy of its block.
type spot struct{ at int }

// row is an instruction, and where it goes, if it is a jump.
type row struct {
	x  api.Instr
	to *spot
}

// plain lowers as chapter 11 has it, word by word: each copy of a block has spots of its own.
type plain struct {
	p    api.Prog
	rows []row
}

func (w *plain) add(op, n, a, kind, site int) {
	w.rows = append(w.rows, row{x: api.Instr{Op: op, N: n, A: a, Kind: kind, Site: site}})
}

func (w *plain) jump(op, site int, to *spot) {
	w.rows = append(w.rows, row{api.Instr{Op: op, Site: site}, to})
}

func (w *plain) expr(e api.Expr, site int) {
	for _, part := range e.Of {
		w.expr(part, site)
	}
	switch e.Kind {
	case api.Number:
		w.add(api.Push, e.N, 0, 0, site)
	case api.Name:
		w.add(api.Load, 0, names.Find(w.p, e.Name), 0, site)
	case api.Minus, api.Add, api.Sub, api.Mul, api.Div, api.Mod, api.Less, api.Equal:
		w.add(api.Op, 0, 0, e.Kind, site)
	}
}

// count is how many statements there are in a block, those within them too.
func count(block []api.Stmt) int {
	return len(tree.List(api.Prog{Threads: [][]api.Stmt{block}}))
}

// block lowers a block whose first statement has that number; around has the spots of the labels in the blocks around.
func (w *plain) block(block []api.Stmt, site int, around map[int]*spot) {
	own := maps.Clone(around)
	first := site
	for _, s := range block {
		if s.Kind == api.Label {
			own[site] = new(spot)
		}
		site += 1 + count(s.Body) + count(s.Else)
	}
	site = first
	for _, s := range block {
		w.stmt(s, site, own)
		site += 1 + count(s.Body) + count(s.Else)
	}
}

func (w *plain) stmt(s api.Stmt, site int, own map[int]*spot) {
	body, other := site+1, site+1+count(s.Body)
	find := func(name string) int { return names.Find(w.p, name) }
	switch s.Kind {
	case api.Assign:
		w.expr(s.E, site)
		w.add(api.Store, 0, find(s.Name), 0, site)
	case api.Lock:
		w.add(api.Acquire, 0, find(s.Name), 0, site)
	case api.Unlock:
		w.add(api.Release, 0, find(s.Name), 0, site)
	case api.Send:
		w.expr(s.E, site)
		w.add(api.Put, 0, find(s.Name), 0, site)
	case api.Recv:
		w.add(api.Take, 0, find(s.Name), 0, site)
		w.add(api.Store, 0, find(s.Other), 0, site)
	case api.Print:
		w.expr(s.E, site)
		w.add(api.Out, 0, 0, 0, site)
	case api.If:
		w.expr(s.E, site)
		no, end := new(spot), new(spot)
		w.jump(api.JumpIf0, site, no)
		w.block(s.Body, body, own)
		if len(s.Else) > 0 {
			w.jump(api.Jump, site, end)
		}
		no.at = len(w.rows)
		w.block(s.Else, other, own)
		end.at = len(w.rows)
	case api.Repeat:
		for range s.N {
			w.block(s.Body, body, own)
		}
	case api.Goto:
		w.jump(api.Jump, site, own[jumps.Target(w.p, site)])
	case api.Label:
		own[site].at = len(w.rows)
	}
}

// plainCode is what chapter 11 has of a good program.
func plainCode(p api.Prog) api.Code {
	c := api.Code{Decls: p.Decls}
	site := 0
	for _, block := range p.Threads {
		w := plain{p: p}
		w.block(block, site, map[int]*spot{})
		site += count(block)
		var list []api.Instr
		for _, r := range w.rows {
			if r.to != nil {
				r.x.N = r.to.at
			}
			list = append(list, r.x)
		}
		c.Threads = append(c.Threads, list)
	}
	return c
}

// maker draws a program by a fixed rule. Its names are right; each goto goes to a label that it may go to.
type maker struct {
	draw   *rand.Rand
	odd    bool // draws trees that no text has, too
	labels int  // of the thread, so far
	at     float64
}

func (m *maker) pick(list string) string {
	k := m.draw.Intn(len(list))
	return list[k : k+1]
}

func (m *maker) grow(deep int) api.Expr {
	kind := m.draw.Intn(10)
	if deep == 0 {
		kind %= 4
	}
	switch {
	case kind < 2:
		return num(m.draw.Intn(30) - 4)
	case kind < 4:
		return name(m.pick("vwal"))
	case m.odd && m.draw.Intn(9) == 0:
		return op(m.draw.Intn(14)-1, m.grow(deep-1), name("v"), m.grow(deep-1)) // with no name of its own, or, as a name, that
	case kind == 4:
		return op(api.Minus, m.grow(deep-1))
	}
	return op(api.Add+m.draw.Intn(7), m.grow(deep-1), m.grow(deep-1))
}

// block draws its labels first, so that what stands ahead of them can go there.
func (m *maker) block(deep int, behind []string) []api.Stmt {
	list := make([]api.Stmt, m.draw.Intn(6))
	for k := range list {
		if m.draw.Intn(5) == 0 {
			list[k] = label("b" + strconv.Itoa(m.labels))
			m.labels++
		}
	}
	for k := len(list) - 1; k >= 0; k-- {
		if list[k].Kind != api.Label {
			list[k] = m.statement(deep, behind)
		}
		m.at++
		list[k].At = complex(m.at, 1)
		if m.odd && m.draw.Intn(9) == 0 && deep > 0 && len(list[k].Body)+len(list[k].Else) == 0 {
			list[k].Body, list[k].Else = m.block(deep-1, behind), m.block(deep-1, behind)
		}
		if list[k].Kind == api.Label {
			behind = append(slices.Clone(behind), list[k].Name)
		}
	}
	return list
}

func (m *maker) statement(deep int, behind []string) api.Stmt {
	kind := 1 + m.draw.Intn(12) // blocks twice as often as others
	if kind > api.Label {
		kind = api.If + kind%2
	}
	if kind == api.Label || deep == 0 && (kind == api.If || kind == api.Repeat) {
		kind = api.Goto
	}
	if kind == api.Goto && len(behind) == 0 {
		kind = api.Print
	}
	if m.odd && m.draw.Intn(12) == 0 {
		kind = 11 * (m.draw.Intn(3) - 1)
	}
	s := api.Stmt{Kind: kind}
	switch kind {
	case api.Assign:
		s.Name, s.E = m.pick("vwal"), m.grow(2)
	case api.Lock, api.Unlock:
		s.Name = "m"
	case api.Send:
		s.Name, s.E = "c", m.grow(1)
	case api.Recv:
		s.Name, s.Other = "c", m.pick("vwal")
	case api.Print:
		s.E = m.grow(1)
	case api.If:
		s.E, s.Body, s.Else = m.grow(1), m.block(deep-1, behind), m.block(deep-1, behind)
	case api.Repeat:
		s.N, s.Body = m.draw.Intn(5), m.block(deep-1, behind)
	case api.Goto:
		s.Name = behind[m.draw.Intn(len(behind))]
	}
	return s
}

func (m *maker) program() api.Prog {
	p := api.Prog{Decls: kinds()}
	p.Decls = append(p.Decls, api.Decl{Name: ""}) // what an odd expression names
	p.Decls[6].Kind = api.Var
	m.draw.Shuffle(len(p.Decls), func(i, j int) { p.Decls[i], p.Decls[j] = p.Decls[j], p.Decls[i] })
	for range m.draw.Intn(5) {
		m.labels = 0
		p.Threads = append(p.Threads, m.block(m.draw.Intn(5), nil))
	}
	return p
}

// TestManyPrograms: drawn programs, held against the chapter's words.
func TestManyPrograms(t *testing.T) {
	long, gotos, copies := 0, 0, 0
	for _, odd := range []bool{false, true} {
		m := maker{draw: rand.New(rand.NewSource(11)), odd: odd}
		for range 6000 {
			p := m.program()
			at, e := code.Check(p)
			if where, fault := bound.Check(p); at != where || e != fault {
				t.Fatalf("11.1: Check(%+v): %v, %d, not %v, %d", p, at, e, where, fault)
			}
			if e != api.OK {
				if c, f := code.Lower(p); f != e || c.Decls != nil || c.Threads != nil {
					t.Fatalf("11.1: Lower(%+v): %+v, %d, not %d", p, c, f, e)
				}
				long++
				continue
			}
			c, want := lower(t, "a drawn one", p), plainCode(p)
			if !slices.Equal(c.Decls, want.Decls) || !slices.EqualFunc(c.Threads, want.Threads, slices.Equal[[]api.Instr]) {
				t.Fatalf("11.1: Lower(%+v):\n%+v\nnot\n%+v", p, c, want)
			}
			forward(t, "a drawn one", p, c)
			kinds := tree.List(p)
			for _, list := range c.Threads {
				seen := map[int]int{}
				for _, x := range list {
					if x.Op == api.Jump && kinds[x.Site].Kind == api.Goto {
						gotos++
						seen[x.Site]++
					}
				}
				for _, n := range seen {
					copies += n - 1
				}
			}
		}
	}
	if long < 50 || gotos < 10000 || copies < 3000 {
		t.Errorf("only %d too long, %d gotos, %d of them copies", long, gotos, copies)
	}
}

// TestDeep: trees that nest as deep as R1 allows.
func TestDeep(t *testing.T) {
	const n = 1 << 10
	for what, around := range map[string]func(block []api.Stmt) api.Stmt{
		"repeats once": func(block []api.Stmt) api.Stmt { return repeat(1, block...) },
		"no kind":      func(block []api.Stmt) api.Stmt { return api.Stmt{Body: block} },
		"elses of no kind": func(block []api.Stmt) api.Stmt {
			return api.Stmt{Kind: api.Lock, Name: "m", Else: block}
		},
		"never": func(block []api.Stmt) api.Stmt { return repeat(0, block...) },
	} {
		block := []api.Stmt{jump("x"), lock()}
		for range n - 1 {
			block = []api.Stmt{around(block)}
		}
		block = append(block, label("x"), lock())
		want := strconv.Itoa(n+2) + " Acquire 4"
		switch what {
		case "repeats once":
			want = fmt.Sprintf("%d Jump 2, %d Acquire 4,", n-1, n) + want
		case "elses of no kind":
			want = "0 Acquire 4," + want
		}
		becomes(t, what, thread(block...), want)
	}
	e := name("v")
	for range api.MaxCode - 2 {
		e = op(api.Minus, e)
	}
	becomes(t, "a deep expression", thread(api.Stmt{Kind: api.Print, E: e}), "0 Load 0,"+strings.Repeat("0 Op neg,", api.MaxCode-2)+"0 Out")
	block := []api.Stmt{label("y")}
	for range 100 {
		block = []api.Stmt{{Kind: api.If, E: num(1), Else: block}}
	}
	c := lower(t, "deep elses", thread(block...))
	for k, x := range c.Threads[0] {
		want := []api.Instr{{Op: api.Push, N: 1}, {Op: api.JumpIf0, N: k + 2}, {Op: api.Jump, N: 300}}[k%3]
		want.Site = k / 3
		if x != want {
			t.Fatalf("11.1: deep elses: instruction %d: %+v, not %+v", k, x, want)
		}
	}
}

// TestMany: very many declarations, threads, and statements without instructions, of which none is gone through for each copy.
func TestMany(t *testing.T) {
	const n = 1 << 16
	var p api.Prog
	for k := range n {
		own := "n" + strconv.Itoa(k)
		p.Decls = append(p.Decls, api.Decl{Kind: api.Var, Name: own})
		p.Threads = append(p.Threads, []api.Stmt{{Kind: api.Assign, Name: own, E: name("n" + strconv.Itoa(n-1-k))}, jump("x"), label("x")})
	}
	c := lower(t, "many threads", p)
	for k, list := range c.Threads {
		want := []api.Instr{{Op: api.Load, A: n - 1 - k, Site: 3 * k}, {Op: api.Store, A: k, Site: 3 * k}, {Op: api.Jump, N: 3, Site: 3*k + 1}}
		if !slices.Equal(list, want) {
			t.Fatalf("11.1: many threads: %d: %v, not %v", k, list, want)
		}
	}
	// very many statements of nothing, deep in what is repeated as often as may be
	var labels []api.Stmt
	for k := range n {
		labels = append(labels, label("x"+strconv.Itoa(k)))
	}
	block := append([]api.Stmt{lock()}, labels...)
	for range 1 << 9 {
		block = []api.Stmt{repeat(1, block...)}
	}
	c = lower(t, "much of nothing", thread(repeat(api.MaxCode, block...)))
	if want := slices.Repeat([]api.Instr{{Op: api.Acquire, A: 4, Site: 513}}, api.MaxCode); !slices.Equal(c.Threads[0], want) {
		t.Errorf("11.1: much of nothing: %v", c.Threads[0])
	}
}

// TestSharedLists: lists that stand at many places of a tree are lowered at each of them.
func TestSharedLists(t *testing.T) {
	block := []api.Stmt{lock(), {Kind: api.Print, E: num(1)}}
	p := api.Prog{Decls: kinds(), Threads: [][]api.Stmt{block, {{Kind: api.If, E: num(2), Body: block, Else: block[:1]}, repeat(2, block[1:]...)}, block}}
	becomes(t, "shared lists", p, "0 Acquire 4, 1 Push 1, 1 Out",
		"2 Push 2, 2 JumpIf0 6, 3 Acquire 4, 4 Push 1, 4 Out, 2 Jump 7, 5 Acquire 4, 7 Push 1, 7 Out, 7 Push 1, 7 Out", "8 Acquire 4, 9 Push 1, 9 Out")
	// of what the code holds no two lists are one
	both := []api.Stmt{jump("x"), lock(), label("x")}
	becomes(t, "shared threads", api.Prog{Decls: kinds(), Threads: [][]api.Stmt{both, both}}, "0 Jump 2, 1 Acquire 4", "3 Jump 2, 4 Acquire 4")
}

// roomy is list with something in its spare room, and each list within it likewise.
func roomy(v reflect.Value) reflect.Value {
	switch v.Kind() {
	case reflect.Slice:
		list := reflect.MakeSlice(v.Type(), v.Len()+2, v.Len()+2)
		for k := range v.Len() {
			list.Index(k).Set(roomy(v.Index(k)))
		}
		for k := v.Len(); k < list.Len(); k++ {
			mark(list.Index(k))
		}
		return list.Slice(0, v.Len())
	case reflect.Struct:
		own := reflect.New(v.Type()).Elem()
		for k := range v.NumField() {
			own.Field(k).Set(roomy(v.Field(k)))
		}
		return own
	}
	return v
}

// mark fills in what would be lowered, or refused, if spare room were gone through.
func mark(v reflect.Value) {
	switch v.Kind() {
	case reflect.Struct:
		for k := range v.NumField() {
			switch f := v.Field(k); f.Kind() {
			case reflect.Int:
				f.SetInt(api.Lock)
			case reflect.String:
				f.SetString("v")
			}
		}
	case reflect.Slice:
		v.Set(reflect.MakeSlice(v.Type(), 1, 1))
		mark(v.Index(0))
	}
}

// shown is all that v holds, the spare room of its lists included.
func shown(v reflect.Value) string {
	var b strings.Builder
	switch v.Kind() {
	case reflect.Slice:
		fmt.Fprintf(&b, "%d/%d[", v.Len(), v.Cap())
		for k := range v.Cap() {
			b.WriteString(shown(v.Slice(0, v.Cap()).Index(k)) + " ")
		}
		return b.String() + "]"
	case reflect.Struct:
		for k := range v.NumField() {
			b.WriteString(shown(v.Field(k)) + " ")
		}
		return "{" + b.String() + "}"
	}
	return fmt.Sprintf("%#v", v.Interface())
}

// fill writes over all that a code holds, its spare room included.
func fill(c api.Code) {
	for k := range c.Decls[:cap(c.Decls)] {
		c.Decls[:cap(c.Decls)][k] = api.Decl{Kind: 99, Name: "other", N: 99, At: 99}
	}
	for _, list := range c.Threads {
		for k := range list[:cap(list)] {
			list[:cap(list)][k] = api.Instr{Op: 99, N: 99, A: 99, Kind: 99, Site: 99}
		}
	}
	clear(c.Threads[:cap(c.Threads)])
}

// TestHandedIn: the program that is handed in is as it was, spare room included, and that room is none of the program; so it is when the answer is written over.
func TestHandedIn(t *testing.T) {
	m := maker{draw: rand.New(rand.NewSource(111))}
	for range 200 {
		own := m.program()
		p := roomy(reflect.ValueOf(own)).Interface().(api.Prog)
		was := shown(reflect.ValueOf(p))
		at, e := code.Check(own)
		if where, fault := code.Check(p); at != where || e != fault {
			t.Errorf("R2: Check(%+v), with spare room: %v, %d, not %v, %d", own, where, fault, at, e)
		}
		c, f := code.Lower(p)
		if f != e || e == api.OK && !code.Same(c, plainCode(own)) {
			t.Errorf("R2: Lower(%+v), with spare room: %+v, %d", own, c, f)
		}
		fill(c)
		if shown(reflect.ValueOf(p)) != was {
			t.Errorf("R2: Lower(%+v): the program is another one", own)
		}
	}
	// nothing of an empty list is held either
	decls := kinds()
	fill(lower(t, "spare declarations", api.Prog{Decls: decls[:0], Threads: [][]api.Stmt{}}))
	if !slices.Equal(decls, kinds()) {
		t.Errorf("R2: Lower writes into spare declarations: %+v", decls)
	}
}

// TestOwnLists: no two lists of an answer share memory, and what is changed in one answer is in no other.
func TestOwnLists(t *testing.T) {
	m := maker{draw: rand.New(rand.NewSource(1111))}
	for range 200 {
		p := m.program()
		if _, e := code.Check(p); e != api.OK {
			continue
		}
		want := plainCode(p)
		a, b := lower(t, "a drawn one", p), lower(t, "a drawn one", p)
		for k, list := range a.Threads {
			for i := range list[:cap(list)] {
				list[:cap(list)][i] = api.Instr{Op: 99}
			}
			for i := k + 1; i < len(a.Threads); i++ {
				if !slices.Equal(a.Threads[i], want.Threads[i]) {
					t.Fatalf("R2: Lower(%+v): threads %d and %d share memory", p, k, i)
				}
			}
		}
		fill(a)
		if !code.Same(b, want) || !slices.Equal(b.Decls, p.Decls) {
			t.Fatalf("R2: Lower(%+v): two answers share memory", p)
		}
	}
}

// TestSameHandedIn: Same changes nothing of what it is given, and looks at no spare room.
func TestSameHandedIn(t *testing.T) {
	p := read(t, one+"go { v = 1 if w { goto x } lock m label x } go { } go { repeat 3 { print 1 } }")
	c := lower(t, "codes", p)
	a, b := roomy(reflect.ValueOf(c)).Interface().(api.Code), roomy(reflect.ValueOf(c)).Interface().(api.Code)
	b.Threads[0][:cap(b.Threads[0])][len(b.Threads[0])].N = 77
	b.Decls[:cap(b.Decls)][len(b.Decls)].Name = "other"
	wasA, wasB := shown(reflect.ValueOf(a)), shown(reflect.ValueOf(b))
	if !code.Same(a, b) || !code.Same(b, a) {
		t.Error("11.1: Same of codes with other spare room: false")
	}
	if shown(reflect.ValueOf(a)) != wasA || shown(reflect.ValueOf(b)) != wasB {
		t.Error("R2: Same: a code is another one")
	}
}

// TestSameAgain: the same program tells the same, whatever was asked between.
func TestSameAgain(t *testing.T) {
	m := maker{draw: rand.New(rand.NewSource(11111))}
	for range 300 {
		p, other := m.program(), m.program()
		at, e := code.Check(p)
		c, f := code.Lower(p)
		code.Check(other)
		code.Lower(other)
		where, fault := code.Check(tree.Copy(p))
		again, g := code.Lower(tree.Copy(p))
		if at != where || e != fault || f != g || !code.Same(c, again) || !slices.Equal(c.Decls, again.Decls) {
			t.Fatalf("R4: Check or Lower of %+v, again: %v, %d, %+v, %d, not %v, %d, %+v, %d", p, where, fault, again, g, at, e, c, f)
		}
	}
}
