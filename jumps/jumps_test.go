package jumps_test

import (
	"fmt"
	"math"
	"math/rand"
	"reflect"
	"slices"
	"strconv"
	"strings"
	"testing"

	"suture/api"
	"suture/jumps"
	"suture/parse"
	"suture/place"
	"suture/tree"
)

func read(t *testing.T, s string) api.Prog {
	t.Helper()
	p, at, e := parse.Read(s)
	if e != api.OK {
		t.Fatalf("5.1: Read(%q): %v, %d", s, at, e)
	}
	return p
}

// jump is a Goto or a Label.
func jump(kind int, name string, at complex128) api.Stmt {
	return api.Stmt{Kind: kind, Name: name, At: at}
}

// thread is a program of one thread, of these statements.
func thread(list ...api.Stmt) api.Prog { return api.Prog{Threads: [][]api.Stmt{list}} }

// targets holds Target, of each number of p and of some that it does not have, against want; it is none of those behind want's end.
func targets(t *testing.T, what string, p api.Prog, want ...int) {
	t.Helper()
	for site := -3; site < len(tree.List(p))+3; site++ {
		goes := -1
		if site >= 0 && site < len(want) {
			goes = want[site]
		}
		if got := jumps.Target(p, site); got != goes {
			t.Errorf("9.1: Target(%.300s, %d): %d, not %d", what, site, got, goes)
		}
	}
}

// answers holds Check, of p, against want.
func answers(t *testing.T, what string, p api.Prog, at complex128, e api.Errno) {
	t.Helper()
	if got, fault := jumps.Check(p); got != at || fault != e {
		t.Errorf("9.1: Check(%.300s): %v, %d, not %v, %d", what, got, fault, at, e)
	}
}

// passes holds that all jumps of the texts are right.
func passes(t *testing.T, texts ...string) {
	t.Helper()
	for _, s := range texts {
		answers(t, s, read(t, s), 0, api.OK)
	}
}

// refuses holds that what is told of each text is what stands behind its only @.
func refuses(t *testing.T, texts ...string) {
	t.Helper()
	for _, s := range texts {
		if strings.Count(s, "@") != 1 {
			t.Fatalf("%q has not one @", s)
		}
		s, at := cut(s, "@")
		answers(t, s, read(t, s), place.Of(s, at), api.ErrJump)
	}
}

// cut is s without the mark, and where that stood; -1, if it is not in it.
func cut(s, mark string) (string, int) {
	at := strings.Index(s, mark)
	return strings.Replace(s, mark, "", 1), at
}

// number is that of the statement of p that stands at that byte of s; -1, if at is -1.
func number(t *testing.T, p api.Prog, s string, at int) int {
	t.Helper()
	if at == -1 {
		return -1
	}
	want := place.Of(s, at)
	n := slices.IndexFunc(tree.List(p), func(s api.Stmt) bool { return s.At == want })
	if n == -1 {
		t.Fatalf("nothing stands at %v of %q", want, s)
	}
	return n
}

// goes holds that the Goto behind the @ goes to the Label behind the $, or nowhere, if there is no $.
func goes(t *testing.T, texts ...string) {
	t.Helper()
	for _, s := range texts {
		if strings.Count(s, "@") != 1 || strings.Count(s, "$") > 1 {
			t.Fatalf("%q is not marked as it must be", s)
		}
		// each mark is where it would be without the other one
		without, _ := cut(s, "@")
		bare, to := cut(without, "$")
		without, _ = cut(s, "$")
		_, from := cut(without, "@")
		p := read(t, bare)
		site, want := number(t, p, bare, from), number(t, p, bare, to)
		if got := jumps.Target(p, site); got != want {
			t.Errorf("9.1: Target(%q, %d): %d, not %d", s, site, got, want)
		}
	}
}

// TestExamples: chapter 9's examples.
func TestExamples(t *testing.T) {
	for s, want := range map[string]api.Errno{"go{goto a label a}": api.OK, "go{label a goto a}": api.ErrJump} {
		at := complex128(0)
		if want != api.OK {
			at = 1 + 12i
		}
		answers(t, s, read(t, s), at, want)
	}
	targets(t, "go{goto a label a}", read(t, "go{goto a label a}"), 1, -1)
	targets(t, "go{label a goto a}", read(t, "go{label a goto a}"), -1, -1)
}

// TestBehind: a label behind the goto in its own block, or in any around it.
func TestBehind(t *testing.T) {
	goes(t,
		"go { @goto a $label a }",
		"go { @goto a\n x = 1 lock m\n $label a print 2 }",
		"go { x = 1 @goto a goto b $label a label b }",
		"go { x = 1 goto a @goto b label a $label b }",
		"go { @goto a if x { print 1 } else { print 2 } repeat 3 { } $label a }",
		"go { if x { @goto a print 1 $label a } }",
		"go { if x { } else { @goto a $label a } }",
		"go { repeat 2 { print 1 @goto a $label a } print 2 }",
		// in the block around it
		"go { if x { @goto a } $label a }",
		"go { if x { } else { @goto a } $label a }",
		"go { if x { print 1 @goto a print 2 } else { print 3 } print 4 $label a }",
		"go { repeat 2 { @goto a } lock m $label a }",
		"go { repeat 2 { if x { @goto a } print 1 $label a } }",
		// two and more blocks around it
		"go { repeat 2 { if x { @goto a } } $label a }",
		"go { if x { } else { if y { } else { @goto a } print 1 } print 2 $label a }",
		"go { if x { if x { if x { if x { if x { if x { if x { @goto a } } } } } } } $label a }",
		"go { if x { repeat 1 { if x { } else { repeat 1 { @goto a } } } label c $label a } label b }",
		// a goto to the last statement, a label whose name is longer or shorter than others
		"go { @goto ab label a label abc $label ab label b }",
		"go { @goto a1 $label a1 label a }",
	)
}

// TestNotThere: a label within a block behind the goto, beside it, ahead of it, in another thread, of another name is none.
func TestNotThere(t *testing.T) {
	goes(t,
		"go { @goto a }", "go { @goto a label b }", "go { @goto a label aa label a1 }", "go { @goto aa label a }", "go { @goto a goto a }",
		// within a block behind it
		"go { @goto a if x { label a } }", "go { @goto a if x { } else { label a } }", "go { @goto a repeat 2 { label a } }",
		"go { @goto a repeat 2 { if x { label a } } }", "go { if x { @goto a if x { label a } } }",
		"go { if x { @goto a } if x { label a } }", "go { if x { @goto a } else { print 1 } repeat 2 { label a } }",
		"go { repeat 2 { if x { @goto a } if x { label a } } repeat 2 { label a } }",
		// beside it
		"go { if x { @goto a } else { label a } }", "go { if x { print 1 @goto a print 2 } else { print 3 label a print 4 } }",
		"go { if x { if y { @goto a } } else { label a } }", "go { if x { if y { } else { @goto a } } else { if y { label a } } }",
		// ahead of it
		"go { label a @goto a }", "go { label a label a @goto a }", "go { if x { label a @goto a } }", "go { label a print 1 repeat 2 { @goto a } }",
		"go { label a if x { if y { @goto a } } label b }", "go { if x { label a } @goto a }", "go { if x { label a } else { @goto a } }", "go { if x { } else { label a } @goto a }",
		"go { repeat 2 { label a if x { @goto a } } }", "go { if x { label a repeat 2 { if x { } else { @goto a } } } print 1 }",
		"go { if x { label a } if x { @goto a }  }", "go { repeat 2 { repeat 2 { label a } if x { } else { @goto a } } }",
		// in another thread
		"go { @goto a } go { label a }", "go { @goto a } go { } go { print 1 label a }", "go { label a } go { @goto a }", "go { print 1 if x { @goto a } print 2 } go { label a print 1 label a }",
		"go { label a } go { if x { @goto a } } go { label a }", "go { } go { @goto a } go { } go { label a }",
		// of the same name are other things
		"var a mutex b go { @goto a a = 1 }", "mutex a go { @goto a lock a unlock a }", "chan a 1 go { @goto a send a 1 recv a b }",
	)
}

// TestFirst: of more labels of one name behind the goto the first one that it may go to.
func TestFirst(t *testing.T) {
	goes(t,
		"go { @goto a $label a label a }", "go { @goto a print 1 $label a print 2 label a label a }", "go { label a @goto a $label a label a }",
		"go { goto a label a @goto a $label a }", "go { @goto a label b $label a label b label a }",
		"go { if x { @goto a $label a } label a }", "go { if x { @goto a $label a } else { label a } label a }", "go { if x { if y { @goto a } $label a } label a }",
		"go { repeat 2 { @goto a $label a label a } label a }", "go { repeat 2 { if x { } else { @goto a } $label a label a } label a label a }",
		// those that it may not go to are between
		"go { @goto a if x { label a } $label a label a }", "go { @goto a repeat 2 { if x { label a } else { label a } } $label a }",
		"go { if x { @goto a } else { label a } $label a }", "go { if x { @goto a if y { label a } } else { label a } repeat 2 { label a } $label a }",
		"go { if x { label a @goto a } $label a }", "go { label a if x { label a } else { label a @goto a if y { label a } else { label a } } if x { label a } $label a label a } go { label a }",
		"go { if x { if y { @goto a } else { label a } if y { label a } } else { label a } if y { label a } $label a }",
	)
}

// TestThreads: the numbers of a thread begin behind those of the threads ahead of it.
func TestThreads(t *testing.T) {
	goes(t,
		"go { goto a label a } go { @goto a $label a }", "go { @goto a $label a } go { goto a label a }",
		"go { print 1 if x { print 2 } else { print 3 } } go { } go { repeat 2 { lock m } } go { x = 1 @goto a repeat 2 { } $label a }",
		"go { label a } go { label a } go { label a } go { if x { @goto a } else { label a } $label a }",
		"go { } go { @goto a $label a }", "go { } go { } go { } go { @goto a $label a }",
		"go { if x { label a } } go { if x { repeat 2 { @goto a } } $label a } go { if x { label a } label a }",
	)
	targets(t, "four threads",
		read(t, "go { goto a label a } go { } go { if x { goto a label a goto a } else { goto a } label a } go { label b goto b if x { goto b } label b }"),
		1, -1, -1, 4, -1, 7, 7, -1, -1, 12, -1, 12, -1)
}

// TestEach: each number of a program, of each kind of statement.
func TestEach(t *testing.T) {
	every := "x = a lock a unlock a send a a recv a a print a if a { } repeat 2 { } label b "
	targets(t, "each kind", read(t, "go { "+every+"goto a "+every+"label a "+strings.Replace(every, "label b ", "", 1)+"}"),
		-1, -1, -1, -1, -1, -1, -1, -1, -1, 19)
	targets(t, "blocks", read(t, "go { goto b if x { goto a label a goto b repeat 2 { goto a goto b } } else { label c } label b goto z } go { label z goto b }"),
		9, -1, 3, -1, 9, -1, -1, 9)
	targets(t, "not into blocks", read(t, "go { goto a if x { label a } goto b if x { goto d } else { label b label d } if x { goto c } label c }"),
		-1, -1, -1, -1, -1, -1, -1, -1, -1, 10)
	targets(t, "many to one", read(t, "go { goto a goto a if x { goto a } else { goto a } goto a label a goto a }"),
		6, 6, -1, 6, 6, 6)
}

// TestNoNumbers: numbers that a program does not have, programs without statements, without gotos.
func TestNoNumbers(t *testing.T) {
	p := read(t, "go { goto a label a } go { goto b label b }")
	for _, site := range []int{-1, -2, -4, 4, 5, 99, math.MinInt, math.MaxInt, math.MinInt + 1, 1 << 31, -1 << 31, 1 << 32, 1<<32 + 2, -1 << 32} {
		for _, p := range []api.Prog{p, {}, {Threads: [][]api.Stmt{}}, {Threads: [][]api.Stmt{nil, {}}}, {Decls: []api.Decl{{Name: "a"}}}} {
			if got := jumps.Target(p, site); got != -1 {
				t.Errorf("9.1: Target of %d: %d", site, got)
			}
		}
	}
	for _, s := range []string{"go { }", "go { } go { } go { }", "var a go { a = 1 if a { print a } else { lock a } }", "go { label a label b }"} {
		targets(t, s, read(t, s))
	}
	for k, p := range []api.Prog{{}, {Threads: [][]api.Stmt{}}, {Threads: [][]api.Stmt{nil, {}, nil}}, {Decls: []api.Decl{{}}}, thread(api.Stmt{}, api.Stmt{Body: []api.Stmt{}})} {
		targets(t, fmt.Sprint("program ", k), p)
		answers(t, fmt.Sprint("program ", k), p, 0, api.OK)
	}
}

// TestRight: programs whose jumps are right.
func TestRight(t *testing.T) {
	passes(t,
		"go { }", "go { } go { } go { } go { }", "var v go { v = 1 if v { print v } else { } repeat 3 { lock m } send c 1 recv c v unlock m }",
		"go { goto a label a }", "go { goto a goto a goto a label a }", "go { goto a goto b label a label b }", "go { goto a goto b label b label a }",
		"go { repeat 3 { if x { goto out } } label out }", "go { if x { if y { goto a } label b } label a }", "go { if x { goto a } else { goto a } label a }",
		"go { if x { goto a label a } else { goto b label b } }", "go { repeat 2 { goto a label a } goto b label b }",
		"go { if x { goto b } else { goto b goto c label c } label b }", "go { goto b if x { label a } label b }",
		// labels that no goto goes to
		"go { label a }", "go { label a label b }", "go { if x { label a } else { label b } label c }",
		// the same names in other threads
		"go { label a } go { label a }", "go { goto a label a } go { goto a label a } go { label a } go { if x { goto a } label a }",
		"go { if x { label a } } go { if x { label a } else { label b } } go { label a label b }", "go { label a goto b label b } go { label b goto a label a }",
		// labels with the names of other things
		"var a mutex b chan c 1 go { label a label b label c goto d label d } go { goto a label a }",
		"go { label a label ab label abc label b label bc label aa label a1 label a11 }",
		// names that are not declared are no matter of jumps
		"go { goto a x = y lock z label a send w v }",
	)
}

// TestTwice: a label that is there twice, in one block, in two blocks of one thread.
func TestTwice(t *testing.T) {
	refuses(t,
		"go { label a @label a }", "go { label a @label a label a }", "go { label a label b print 1 @label a label b }", "go { label a label b @label b label a }",
		"go { goto a label a @label a }", "go { label a goto b @label a label b }", "go { goto a goto a label a label b print 1\n\t @label a goto c label c }",
		"go { if x { label a @label a } }", "go { if x { label a } @label a }", "go { label a if x { @label a } }", "go { label a if x { } else { @label a } }", "go { if x { label a } else { @label a } }",
		"go { repeat 2 { label a } print 1 repeat 2 { @label a } }", "go { repeat 2 { if x { label a } } repeat 2 { if x { } else { if y { } else { @label a } } } label a }",
		"go { if x { if x { if x { if x { if x { if x { if x { label a } } } } } } } @label a }", "go { label a if x { if x { if x { if x { if x { if x { if x { @label a } } } } } } } }",
		// the goto may go to either
		"go { if x { goto a label a } else { goto a @label a } }", "go { if x { goto a label a } goto a @label a }", "go { if x { goto a } else { label a } @label a }",
		// in other threads the name may be there
		"go { label a } go { label a @label a }", "go { label a label b } go { label b label a if x { } else { @label b } }", "go { label a @label a } go { label a label a }",
		"go { label a } go { label b } go { label a label b goto c label c @label a }", "go { } go { } go { } go { label a @label a }",
		"go { label a label c } go { label c label b @label c } go { label b }",
	)
	passes(t, "go { label a } go { label a }", "go { label a } go { label b } go { label a } go { label b }", "go { if x { label a } } go { } go { label a }")
}

// TestLost: a goto without a target.
func TestLost(t *testing.T) {
	refuses(t,
		"go { @goto a }", "go { label a @goto a }", "go { print 1\n\n\t  @goto a label b }", "go { goto b label b @goto a }", "go { goto a label a @goto a }",
		"go { @goto a if x { label a } }", "go { @goto a if x { } else { label a } }", "go { @goto a repeat 2 { label a } }", "go { if x { @goto a } else { label a } }", "go { if x { label a } else { @goto a } }",
		"go { if x { label a } @goto a }", "go { label a repeat 2 { @goto a } }", "go { if x { @goto a } if x { label a } }", "go { if x { goto b } else { @goto a label b } label b }",
		"go { @goto a } go { label a }", "go { label a } go { @goto a }", "go { goto a label a } go { @goto a }", "go { @goto a } go { goto a label a }", "go { } go { } go { if x { @goto a } } go { label a }",
		"go { if x { goto a @goto b } print 1 label a } go { label b }", "var a mutex b go { @goto a a = 1 lock b }",
		"go { repeat 2 { if x { print 1 } else { print 2 @goto a } label b } label c }",
	)
}

// TestFirstWrong: of more faults the first one in order, whichever of the two it is.
func TestFirstWrong(t *testing.T) {
	refuses(t,
		// a goto, then a label; a label, then a goto
		"go { @goto z label a label a }", "go { label a @label a goto z }", "go { label a @goto z label a }", "go { label a @goto a label b label b }", "go { goto c label a @label a goto b label c }",
		"go { goto c label a @label a label a label c }", "go { @goto z goto y goto x }", "go { label a @label a label b label b }", "go { label a label b @label b label a goto z }",
		"go { label a @goto a goto z }",
		// a label that is there twice, with a goto between that would go to it
		"go { label a goto a @label a }", "go { label a @goto b goto a label a }", "go { label a if x { goto a @goto b } label a }",
		// deep within, and what is around it
		"go { repeat 2 { if x { print 1 } else { print 2\n\t@goto z label a } } label a }", "go { repeat 2 { if x { label a } else { print 2\n\n @label a goto z } } goto z label a }",
		"go { label a if x { repeat 2 { if y { } else { repeat 3 { @label a } } } } else { goto z } }", "go { if x { repeat 2 { if y { } else { repeat 3 { @goto z } } } label a } else { label a } }",
		// a statement's body is ahead of its else, this ahead of what follows
		"go { if x { @goto z } else { goto y } goto x }", "go { if x { } else { @goto y } goto x }", "go { label a if x { @label a } else { goto z } }", "go { label a if x { @goto z } else { label a } }",
		"go { label a if x { goto a } else { @goto z } label a }", "go { label a if x { goto a } else { goto a } @label a goto z }", "go { if x { label a } else { @label a } label a }",
		// threads in their order
		"go { @goto z } go { label a label a }", "go { label a @label a } go { goto z }", "go { goto a label a } go { label a @goto z } go { label b label b }", "go { label a } go { label a @label a } go { goto z }",
		"go { print 1 if x { print 2 @goto z } } go { label a label a } go { goto z }", "go { print 1 } go { label a if x { } else { @label a } } go { goto z } go { goto y }",
	)
}

// TestTwoWrong: of any two jumps of a program that are wrong, the one ahead.
func TestTwoWrong(t *testing.T) {
	// each goto is bent to go nowhere, each label to be one that is there
	const s = "go { label z goto a if x { goto b label e if x { goto c } else { goto a label f } label c } else { repeat 2 { goto d label d } label g } label a goto b label b } go { } " +
		"go { label z goto h repeat 1 { goto i label j } label h goto i label i }"
	bent := map[int]byte{} // of where its name stands in s, what that becomes
	var spots []int
	for at := range s {
		behind := at
		switch {
		case strings.HasPrefix(s[at:], "goto "):
			behind += len("goto ")
			bent[behind] = 'y'
		case strings.HasPrefix(s[at:], "label ") && !strings.HasPrefix(s[at:], "label z"):
			behind += len("label ")
			bent[behind] = 'z'
		default:
			continue
		}
		spots = append(spots, behind)
	}
	if len(spots) != 19 {
		t.Fatalf("%d gotos and labels", len(spots))
	}
	passes(t, s)
	for k, first := range spots {
		for _, second := range spots[k:] {
			text := []byte(s)
			text[first], text[second] = bent[first], bent[second]
			p := read(t, string(text))
			at, e := plain(p)
			if e != api.ErrJump {
				t.Fatalf("%q has nothing wrong", text)
			}
			answers(t, string(text), p, at, e)
		}
	}
}

// TestPlaces: the place is the one that the statement has, whatever it is.
func TestPlaces(t *testing.T) {
	for _, at := range []complex128{0, 7, -3 - 2i, 1e300i, complex(math.Inf(1), math.Inf(-1))} {
		for _, list := range [][]api.Stmt{
			{jump(api.Goto, "a", at)}, {jump(api.Goto, "a", at), jump(api.Goto, "a", 5)}, {jump(api.Label, "a", 5), jump(api.Label, "a", at)},
			{{Kind: api.Repeat, At: 5, Else: []api.Stmt{jump(api.Goto, "a", at)}}}, {jump(api.Label, "a", 5), {Kind: api.If, At: 6, Body: []api.Stmt{jump(api.Label, "a", at)}}},
		} {
			answers(t, "a statement", thread(list...), at, api.ErrJump)
		}
		answers(t, "none", thread(jump(api.Goto, "a", at), jump(api.Label, "a", at)), 0, api.OK)
	}
	at, e := jumps.Check(thread(jump(api.Goto, "a", complex(math.NaN(), 3))))
	if !math.IsNaN(real(at)) || imag(at) != 3 || e != api.ErrJump {
		t.Errorf("9.1: Check, at no place: %v, %d", at, e)
	}
	// order is that of the tree, not of the places
	answers(t, "places that fall", thread(jump(api.Goto, "a", 9), jump(api.Goto, "a", 3)), 9, api.ErrJump)
}

// TestOddNames: names that no text has are names as well.
func TestOddNames(t *testing.T) {
	for _, s := range []string{"", "A b", "\xff", "goto", "1", strings.Repeat("a", 100)} {
		for _, other := range []string{"a", s + "a", s + " ", "\xfe"} {
			what := strconv.Quote(s)
			p := thread(jump(api.Goto, s, 1), jump(api.Label, other, 2), jump(api.Label, s, 3))
			targets(t, what, p, 2)
			answers(t, what, p, 0, api.OK)
			answers(t, what, thread(p.Threads[0][:2]...), 1, api.ErrJump)
			answers(t, what, thread(append(p.Threads[0][:3:3], jump(api.Label, s, 4))...), 4, api.ErrJump)
		}
	}
}

// TestOtherKinds: what has another kind is no Goto and no Label, whatever else it has.
func TestOtherKinds(t *testing.T) {
	for _, kind := range []int{math.MinInt, -api.Goto, -1, 0, api.Assign, api.Lock, api.Unlock, api.Send, api.Recv, api.Print, api.If, api.Repeat, 11, 99, math.MaxInt, 1<<32 + api.Goto, 1<<32 + api.Label} {
		other := api.Stmt{Kind: kind, Name: "a", Other: "a", N: 1, E: api.Expr{Kind: api.Name, Name: "a"}, At: 5}
		p := thread(jump(api.Goto, "a", 1), other, jump(api.Label, "a", 2), other)
		targets(t, fmt.Sprint("kind ", kind), p, 2)
		answers(t, fmt.Sprint("kind ", kind), p, 0, api.OK)
		answers(t, fmt.Sprint("kind ", kind), thread(p.Threads[0][:2]...), 1, api.ErrJump)
	}
	// only Name counts
	p := thread(api.Stmt{Kind: api.Goto, Name: "a", Other: "b"}, api.Stmt{Kind: api.Label, Name: "b", Other: "a"}, api.Stmt{Kind: api.Label, Name: "a", Other: "b"}, api.Stmt{Kind: api.Label, Name: "c", Other: "a"})
	targets(t, "other names", p, 2)
	answers(t, "other names", p, 0, api.OK)
}

// TestOddBlocks: tree.List tells the Body and Else of any statement, whatever its kind: they are blocks, and the statement stands in neither.
func TestOddBlocks(t *testing.T) {
	for kind := -1; kind < 13; kind++ {
		what := fmt.Sprint("kind ", kind)
		around := func(body, other []api.Stmt) api.Stmt {
			return api.Stmt{Kind: kind, Name: "own", Body: body, Else: other, At: 50}
		}
		behind := jump(api.Label, "own", 60)
		if kind == api.Label {
			behind = jump(api.Print, "", 60)
		}
		goer, to := jump(api.Goto, "a", 1), jump(api.Label, "a", 2)
		want := func(list ...int) []int { // the goto to own is right as well
			if kind == api.Goto {
				list[0] = len(list)
			}
			return append(list, -1)
		}
		p := thread(around([]api.Stmt{goer, to}, nil), behind)
		targets(t, what, p, want(-1, 2, -1)...)
		answers(t, what, p, 0, api.OK)
		p = thread(around(nil, []api.Stmt{goer, to}), behind)
		targets(t, what, p, want(-1, 2, -1)...)
		answers(t, what, p, 0, api.OK)
		p = thread(around([]api.Stmt{goer}, []api.Stmt{to}), behind)
		targets(t, what, p, want(-1, -1, -1)...)
		answers(t, what, p, 1, api.ErrJump)
		p = thread(around([]api.Stmt{to}, []api.Stmt{goer}), behind)
		targets(t, what, p, want(-1, -1, -1)...)
		answers(t, what, p, 1, api.ErrJump)
		p = thread(goer, around([]api.Stmt{to}, []api.Stmt{to}), behind)
		answers(t, what, p, 1, api.ErrJump)
	}
	// a goto does not go into what it holds itself; what a label holds is behind that
	targets(t, "its own", thread(api.Stmt{Kind: api.Goto, Name: "a", Body: []api.Stmt{jump(api.Label, "a", 2)}, Else: []api.Stmt{jump(api.Label, "a", 3)}}))
	p := thread(api.Stmt{Kind: api.Label, Name: "a", Body: []api.Stmt{jump(api.Goto, "a", 2)}, Else: []api.Stmt{jump(api.Goto, "a", 3)}})
	targets(t, "in the label", p)
	answers(t, "in the label", p, 2, api.ErrJump)
}

// TestDeep: trees that nest as deep as R1 allows.
func TestDeep(t *testing.T) {
	const n = 1 << 10
	deep := func(around func(k int, block []api.Stmt) []api.Stmt) api.Prog {
		block := []api.Stmt{jump(api.Goto, "a", 77), jump(api.Goto, "l5", 78)}
		for k := range n {
			block = around(k, block)
		}
		return thread(block...)
	}
	within := func(k int, block []api.Stmt) api.Stmt {
		if k%2 == 1 {
			return api.Stmt{Kind: api.If, Else: block, At: 5}
		}
		return api.Stmt{Kind: api.Repeat, Body: block, At: 5}
	}
	// a label behind each block: those that were drawn ahead of l5 are of deeper blocks
	p := deep(func(k int, block []api.Stmt) []api.Stmt {
		return []api.Stmt{within(k, block), jump(api.Label, "l"+strconv.Itoa(k), 6)}
	})
	if a, l := jumps.Target(p, n), jumps.Target(p, n+1); a != -1 || l != n+7 {
		t.Errorf("9.1: Target, deep: %d, %d, not -1, %d", a, l, n+7)
	}
	answers(t, "deep", p, 77, api.ErrJump)
	p.Threads[0] = append(p.Threads[0], jump(api.Label, "a", 7))
	if a := jumps.Target(p, n); a != 2*n+2 {
		t.Errorf("9.1: Target, deep: %d, not %d", a, 2*n+2)
	}
	answers(t, "deep, and right", p, 0, api.OK)
	// a label ahead of each block
	p = deep(func(k int, block []api.Stmt) []api.Stmt {
		return []api.Stmt{jump(api.Label, "l"+strconv.Itoa(k), 6), within(k, block)}
	})
	p.Threads[0] = append(p.Threads[0], jump(api.Label, "a", 7))
	if a, l := jumps.Target(p, 2*n), jumps.Target(p, 2*n+1); a != 2*n+2 || l != -1 {
		t.Errorf("9.1: Target, deep: %d, %d, not %d, -1", a, l, 2*n+2)
	}
	answers(t, "deep, labels ahead", p, 78, api.ErrJump)
}

// TestManyBelow: very many statements with as many blocks around them as may be: none is copied for each of these.
func TestManyBelow(t *testing.T) {
	const n, around = 1 << 16, 1 << 10
	low := make([]api.Stmt, n)
	for k := range low {
		low[k] = jump(api.Goto, "n"+strconv.Itoa(k%(n/4)), complex(float64(k), 1))
		if k >= n/2 {
			low[k].Name = "out"
		}
	}
	block := low
	for range around {
		block = []api.Stmt{{Kind: api.Repeat, Body: block}}
	}
	for k := range n / 4 {
		block = append(block, jump(api.Label, "n"+strconv.Itoa(k), complex(float64(k), 2)))
	}
	block = append(block, jump(api.Label, "out", 3))
	p := thread(block...)
	answers(t, "many below", p, 0, api.OK)
	for site, want := range map[int]int{around - 1: -1, around: around + n, around + n/4 - 1: around + n + n/4 - 1, around + n/4: around + n, around + n - 1: around + n + n/4, around + n: -1} {
		if got := jumps.Target(p, site); got != want {
			t.Errorf("9.1: Target(many, %d): %d, not %d", site, got, want)
		}
	}
	low[n-1].Name = "x"
	answers(t, "many below, the last one wrong", p, complex(n-1, 1), api.ErrJump)
}

// TestMany: very many gotos ahead of very many labels of one name that none of them may go to, and then one that they may.
func TestMany(t *testing.T) {
	const n = 1 << 17
	list := make([]api.Stmt, 0, 2*n+1)
	for k := range n {
		list = append(list, jump(api.Goto, "a", complex(float64(k), 1)))
	}
	for k := range n {
		list = append(list, api.Stmt{Kind: api.If, Body: []api.Stmt{jump(api.Label, "a", complex(float64(k), 2))}})
	}
	answers(t, "many gotos", thread(list...), 1i, api.ErrJump)
	p := thread(append(list, jump(api.Label, "a", 3))...)
	answers(t, "many labels", p, 1+2i, api.ErrJump)
	if got := jumps.Target(p, 1); got != 3*n {
		t.Errorf("9.1: Target, beyond many labels: %d, not %d", got, 3*n)
	}
	// as many threads, each with a label of the same name
	var threads api.Prog
	for k := range n {
		threads.Threads = append(threads.Threads, []api.Stmt{jump(api.Goto, "a", complex(float64(k), 1)), jump(api.Label, "a", complex(float64(k), 2))})
	}
	answers(t, "many threads", threads, 0, api.OK)
	if got := jumps.Target(threads, 2*n-2); got != 2*n-1 {
		t.Errorf("9.1: Target in the last thread: %d, not %d", got, 2*n-1)
	}
	threads.Threads[n-1][1].Name = "b"
	answers(t, "many threads, the last one wrong", threads, complex(n-1, 1), api.ErrJump)
}

// placed is a statement of a tree: its thread, the blocks that it stands in, each with a number of its own.
type placed struct {
	s      api.Stmt
	thread int
	blocks []int
}

// all is the statements of p, in order.
func all(p api.Prog) []placed {
	var list []placed
	blocks := 0
	var through func(thread int, block []api.Stmt, around []int)
	through = func(thread int, block []api.Stmt, around []int) {
		blocks++
		own := append(slices.Clone(around), blocks)
		for _, s := range block {
			list = append(list, placed{s, thread, own})
			through(thread, s.Body, own)
			through(thread, s.Else, own)
		}
	}
	for k, block := range p.Threads {
		through(k, block, nil)
	}
	return list
}

// plainTarget is Target as chapter 9 has it, word by word.
func plainTarget(list []placed, site int) int {
	if site < 0 || site >= len(list) || list[site].s.Kind != api.Goto {
		return -1
	}
	from := list[site]
	for k := site + 1; k < len(list); k++ {
		to := list[k]
		own := to.blocks[len(to.blocks)-1]
		if to.s.Kind == api.Label && to.s.Name == from.s.Name && to.thread == from.thread && slices.Contains(from.blocks, own) {
			return k
		}
	}
	return -1
}

// plain is Check as chapter 9 has it, word by word.
func plain(p api.Prog) (complex128, api.Errno) {
	list := all(p)
	for k, a := range list {
		twice := slices.ContainsFunc(list[:k], func(b placed) bool {
			return b.s.Kind == api.Label && b.s.Name == a.s.Name && b.thread == a.thread
		})
		if a.s.Kind == api.Label && twice || a.s.Kind == api.Goto && plainTarget(list, k) == -1 {
			return a.s.At, api.ErrJump
		}
	}
	return 0, api.OK
}

// maker draws a tree by a fixed rule; each statement in it has a place of its own, and these are in no order.
type maker struct {
	draw  *rand.Rand
	at    int
	names int // so many names are drawn from
}

func (m *maker) block(deep int) []api.Stmt {
	var list []api.Stmt
	for m.draw.Intn(4) > 0 {
		list = append(list, m.statement(deep))
	}
	return list
}

func (m *maker) statement(deep int) api.Stmt {
	m.at++
	s := api.Stmt{Kind: m.draw.Intn(12), Name: m.name(), Other: m.name(), At: complex(float64(m.at*7919%10007), 1)}
	if m.draw.Intn(2) == 0 {
		s.Kind = api.Goto + m.draw.Intn(2)
	}
	if deep > 0 && m.draw.Intn(3) == 0 {
		s.Body, s.Else = m.block(deep-1), m.block(deep-1)
	}
	return s
}

func (m *maker) name() string { return string(rune('a' + m.draw.Intn(m.names))) }

func (m *maker) program() api.Prog {
	var p api.Prog
	for range m.draw.Intn(4) {
		p.Threads = append(p.Threads, m.block(m.draw.Intn(4)))
	}
	return p
}

// TestManyPrograms: drawn programs, held against the chapter's words.
func TestManyPrograms(t *testing.T) {
	right, lost, twice, reach := 0, 0, 0, 0
	for _, names := range []int{1, 3, 12, 26} {
		m := maker{draw: rand.New(rand.NewSource(9)), names: names}
		for range 1500 {
			p := m.program()
			list := all(p)
			for site := -2; site < len(list)+2; site++ {
				want := plainTarget(list, site)
				if got := jumps.Target(p, site); got != want {
					t.Fatalf("9.1: Target(%+v, %d): %d, not %d", p, site, got, want)
				}
				if want != -1 && len(list[want].blocks) < len(list[site].blocks) {
					reach++
				}
			}
			at, e := plain(p)
			if got, fault := jumps.Check(p); got != at || fault != e {
				t.Fatalf("9.1: Check(%+v): %v, %d, not %v, %d", p, got, fault, at, e)
			}
			k := slices.IndexFunc(list, func(a placed) bool { return a.s.At == at })
			switch {
			case e == api.OK:
				right++
			case list[k].s.Kind == api.Goto:
				lost++
			default:
				twice++
			}
		}
	}
	if right < 1500 || lost < 1500 || twice < 500 || reach < 2000 {
		t.Errorf("only %d right, %d with lost gotos, %d with labels twice; %d gotos out of a block", right, lost, twice, reach)
	}
}

// roomy is list with something in its spare room, and each list within it likewise.
func roomy(v reflect.Value) reflect.Value {
	switch v.Kind() {
	case reflect.Slice:
		list := reflect.MakeSlice(v.Type(), v.Len()+2, v.Len()+2)
		for k := range v.Len() {
			list.Index(k).Set(roomy(v.Index(k)))
		}
		for k := v.Len(); k < list.Len(); k++ {
			mark(list.Index(k))
		}
		return list.Slice(0, v.Len())
	case reflect.Struct:
		own := reflect.New(v.Type()).Elem()
		for k := range v.NumField() {
			own.Field(k).Set(roomy(v.Field(k)))
		}
		return own
	}
	return v
}

// mark fills in labels that the gotos could go to, if spare room were gone through.
func mark(v reflect.Value) {
	switch v.Kind() {
	case reflect.Struct:
		v.FieldByName("Kind").SetInt(api.Label)
		v.FieldByName("Name").SetString("a")
	case reflect.Slice:
		v.Set(reflect.MakeSlice(v.Type(), 1, 1))
		mark(v.Index(0))
	}
}

// shown is all that v holds, the spare room of its lists included.
func shown(v reflect.Value) string {
	var b strings.Builder
	switch v.Kind() {
	case reflect.Slice:
		fmt.Fprintf(&b, "%d/%d[", v.Len(), v.Cap())
		for k := range v.Cap() {
			b.WriteString(shown(v.Slice(0, v.Cap()).Index(k)) + " ")
		}
		return b.String() + "]"
	case reflect.Struct:
		for k := range v.NumField() {
			b.WriteString(shown(v.Field(k)) + " ")
		}
		return "{" + b.String() + "}"
	}
	return fmt.Sprintf("%#v", v.Interface())
}

// TestHandedIn: the program that is handed in is as it was, spare room included, and that room is none of the program.
func TestHandedIn(t *testing.T) {
	m := maker{draw: rand.New(rand.NewSource(99)), names: 3}
	for range 200 {
		own := m.program()
		p := roomy(reflect.ValueOf(own)).Interface().(api.Prog)
		was := shown(reflect.ValueOf(p))
		at, e := plain(own)
		answers(t, "a program with spare room", p, at, e)
		list := all(own)
		for site := -1; site <= len(list); site++ {
			if got, want := jumps.Target(p, site), plainTarget(list, site); got != want {
				t.Errorf("9.1: Target(%+v, %d), with spare room: %d, not %d", own, site, got, want)
			}
		}
		if shown(reflect.ValueOf(p)) != was {
			t.Errorf("R2: Check or Target of %+v: the program is another one", own)
		}
	}
}

// TestSameAgain: the same program tells the same, whatever was asked between.
func TestSameAgain(t *testing.T) {
	m := maker{draw: rand.New(rand.NewSource(999)), names: 4}
	for range 300 {
		p, other := m.program(), m.program()
		at, e := jumps.Check(p)
		to := jumps.Target(p, 1)
		jumps.Check(other)
		jumps.Target(other, 1)
		answers(t, "again", tree.Copy(p), at, e)
		answers(t, "again", p, at, e)
		if again := jumps.Target(p, 1); again != to {
			t.Errorf("R4: Target: %d, then %d", to, again)
		}
	}
}

// TestSharedLists: lists that stand at many places of a tree are other blocks at each of them.
func TestSharedLists(t *testing.T) {
	block := []api.Stmt{jump(api.Goto, "a", 1), jump(api.Label, "a", 2)}
	both := api.Stmt{Kind: api.If, Body: block[:1], Else: block, At: 3}
	p := api.Prog{Threads: [][]api.Stmt{{both}, block, {both, jump(api.Label, "a", 4)}}}
	targets(t, "shared lists", p, -1, -1, 3, -1, 5, -1, -1, 10, 9)
	answers(t, "shared lists", p, 1, api.ErrJump)
	answers(t, "shared lists", api.Prog{Threads: [][]api.Stmt{block, block, block}}, 0, api.OK)
	twice := api.Stmt{Kind: api.If, Body: block, Else: block}
	answers(t, "shared lists", thread(twice), 2, api.ErrJump)
}
