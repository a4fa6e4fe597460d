package tree_test

import (
	"fmt"
	"math"
	"reflect"
	"slices"
	"strings"
	"testing"

	"suture/api"
	"suture/tree"
)

func number(n int) api.Expr { return api.Expr{Kind: api.Number, N: n} }

func name(s string) api.Expr { return api.Expr{Kind: api.Name, Name: s} }

func of(kind int, parts ...api.Expr) api.Expr { return api.Expr{Kind: kind, Of: parts} }

// sample has each kind of declaration, statement and expression, blocks within
// blocks, a thread without statements, and a place of its own for each thing.
func sample() api.Prog {
	deep := of(api.Less, of(api.Add, name("x"), of(api.Minus, of(api.Mul, name("y"), number(2)))), of(api.Mod, name("x"), of(api.Div, number(7), name("z"))))
	return api.Prog{
		Decls: []api.Decl{
			{Kind: api.Var, Name: "x", At: 1 + 1i}, {Kind: api.Wide, Name: "y", At: 2 + 1i}, {Kind: api.Atomic, Name: "z", At: 3 + 1i},
			{Kind: api.Local, Name: "w", At: 4 + 1i}, {Kind: api.Mutex, Name: "m", At: 5 + 1i}, {Kind: api.Chan, Name: "c", N: 2, At: 6 + 1i},
		},
		Threads: [][]api.Stmt{
			{
				{Kind: api.Label, Name: "top", At: 8 + 2i},
				{Kind: api.If, E: deep, At: 9 + 2i,
					Body: []api.Stmt{
						{Kind: api.Assign, Name: "x", E: of(api.Sub, name("y"), name("x")), At: 10 + 3i},
						{Kind: api.Repeat, N: 2, At: 11 + 3i, Body: []api.Stmt{
							{Kind: api.Recv, Name: "c", Other: "w", At: 12 + 4i},
							{Kind: api.If, E: name("w"), At: 13 + 4i,
								Body: []api.Stmt{{Kind: api.Print, E: name("w"), At: 14 + 5i}},
								Else: []api.Stmt{{Kind: api.Print, E: of(api.Minus, name("z")), At: 16 + 5i}}},
						}},
					},
					Else: []api.Stmt{
						{Kind: api.Lock, Name: "m", At: 20 + 3i},
						{Kind: api.If, E: of(api.Equal, name("x"), number(0)), At: 21 + 3i,
							Else: []api.Stmt{{Kind: api.Assign, Name: "z", E: number(4), At: 23 + 4i}}},
						{Kind: api.Unlock, Name: "m", At: 25 + 3i},
					}},
				{Kind: api.Goto, Name: "top", At: 27 + 2i},
			},
			{},
			{{Kind: api.Send, Name: "c", E: of(api.Add, name("x"), number(3)), At: 32 + 2i}},
		},
	}
}

// stmts points at all statements below those of block, in no promised order.
func stmts(block []api.Stmt) []*api.Stmt {
	var all []*api.Stmt
	for k := range block {
		s := &block[k]
		all = append(all, s)
		all = append(all, stmts(s.Body)...)
		all = append(all, stmts(s.Else)...)
	}
	return all
}

func allStmts(p api.Prog) []*api.Stmt {
	var all []*api.Stmt
	for _, block := range p.Threads {
		all = append(all, stmts(block)...)
	}
	return all
}

// exprs points at e, and at all that it is made of.
func exprs(e *api.Expr) []*api.Expr {
	all := []*api.Expr{e}
	for k := range e.Of {
		all = append(all, exprs(&e.Of[k])...)
	}
	return all
}

func allExprs(p api.Prog) []*api.Expr {
	var all []*api.Expr
	for _, s := range allStmts(p) {
		all = append(all, exprs(&s.E)...)
	}
	return all
}

// bendsOfExpr is each way in which an expression may part from another.
func bendsOfExpr() []func(e *api.Expr) {
	return []func(e *api.Expr){
		func(e *api.Expr) { e.Kind++ },
		func(e *api.Expr) { e.Kind = -1 },
		func(e *api.Expr) { e.N++ },
		func(e *api.Expr) { e.N = math.MinInt },
		func(e *api.Expr) { e.Name += "q" },
		func(e *api.Expr) { e.Of = append(e.Of, number(1)) },
		func(e *api.Expr) { e.Of = append(e.Of, api.Expr{}) },
	}
}

// bendsOfStmt is the same of a statement.
func bendsOfStmt() []func(s *api.Stmt) {
	return []func(s *api.Stmt){
		func(s *api.Stmt) { s.Kind++ },
		func(s *api.Stmt) { s.Kind = -1 },
		func(s *api.Stmt) { s.Name += "q" },
		func(s *api.Stmt) { s.Other += "q" },
		func(s *api.Stmt) { s.Name, s.Other = s.Other+"q", s.Name },
		func(s *api.Stmt) { s.N-- },
		func(s *api.Stmt) { s.Body = append(s.Body, api.Stmt{}) },
		func(s *api.Stmt) { s.Else = append(s.Else, api.Stmt{Kind: api.Goto, Name: "top"}) },
	}
}

// bendsOfDecl is the same of a declaration.
func bendsOfDecl() []func(d *api.Decl) {
	return []func(d *api.Decl){
		func(d *api.Decl) { d.Kind++ },
		func(d *api.Decl) { d.Name += "q" },
		func(d *api.Decl) { d.N++ },
	}
}

// alike holds what Same tells of a and b, both ways, against want.
func alike(t *testing.T, what string, a, b api.Prog, want bool) {
	t.Helper()
	if got, back := tree.Same(a, b), tree.Same(b, a); got != want || back != want {
		t.Errorf("3.1: Same, %s: %t, %t, not %t", what, got, back, want)
	}
}

// alikeExpr is alike of expressions.
func alikeExpr(t *testing.T, what string, a, b api.Expr, want bool) {
	t.Helper()
	if got, back := tree.SameExpr(a, b), tree.SameExpr(b, a); got != want || back != want {
		t.Errorf("3.1: SameExpr, %s: %t, %t, not %t", what, got, back, want)
	}
}

// TestSameExpr: numbers, names, operators; what they are of counts in its order.
func TestSameExpr(t *testing.T) {
	x, y := name("x"), name("y")
	alikeExpr(t, "names", x, name("x"), true)
	alikeExpr(t, "names", x, y, false)
	alikeExpr(t, "numbers", number(3), number(3), true)
	alikeExpr(t, "numbers", number(3), number(-3), false)
	alikeExpr(t, "numbers", number(math.MaxInt), number(math.MinInt), false)
	alikeExpr(t, "a name and a number", x, number(0), false)
	alikeExpr(t, "none", api.Expr{}, api.Expr{}, true)
	alikeExpr(t, "nil and empty", api.Expr{Kind: api.Name}, api.Expr{Kind: api.Name, Of: []api.Expr{}}, true)
	alikeExpr(t, "the order", of(api.Sub, x, y), of(api.Sub, y, x), false)
	alikeExpr(t, "the grouping", of(api.Sub, of(api.Sub, x, y), x), of(api.Sub, x, of(api.Sub, y, x)), false)
	alikeExpr(t, "a minus", of(api.Minus, x), x, false)
	alikeExpr(t, "a minus and a number", of(api.Minus, number(1)), number(-1), false)
	alikeExpr(t, "one part less", of(api.Add, x, y), of(api.Add, x), false)
	alikeExpr(t, "a kind that is none", of(99, x), of(99, x), true)
	alikeExpr(t, "kinds that are none", of(99, x), of(-1, x), false)
	for a := api.Number; a <= api.Equal; a++ {
		for b := api.Number; b <= api.Equal; b++ {
			alikeExpr(t, "kinds", of(a, x, y), of(b, x, y), a == b)
		}
	}
}

// TestSameExprEach: a bend of any field, at any depth, is seen.
func TestSameExprEach(t *testing.T) {
	first := func() api.Expr { return sample().Threads[0][1].E }
	for k := range exprs(ref(first())) {
		for b, bend := range bendsOfExpr() {
			e := first()
			alikeExpr(t, "again", first(), e, true)
			bend(exprs(&e)[k])
			alikeExpr(t, fmt.Sprintf("expression %d, bend %d", k, b), first(), e, false)
		}
	}
}

func ref[T any](x T) *T { return &x }

// TestSamePlaces: places, whatever they are, do not count.
func TestSamePlaces(t *testing.T) {
	for _, at := range []complex128{0, 7, -1 - 1i, complex(math.NaN(), math.NaN()), complex(math.Inf(1), 2)} {
		every := sample()
		for k := range sample().Decls {
			p := sample()
			p.Decls[k].At, every.Decls[k].At = at, at
			alike(t, "the place of a declaration", sample(), p, true)
		}
		for k, s := range allStmts(every) {
			p := sample()
			allStmts(p)[k].At, s.At = at, at
			alike(t, "the place of a statement", sample(), p, true)
		}
		alike(t, "all places", sample(), every, true)
		alike(t, "a program and itself", every, every, true)
	}
}

// TestSameEach: a bend of any other field, at any depth, is seen.
func TestSameEach(t *testing.T) {
	for k := range sample().Decls {
		for b, bend := range bendsOfDecl() {
			p := sample()
			bend(&p.Decls[k])
			alike(t, fmt.Sprintf("declaration %d, bend %d", k, b), sample(), p, false)
		}
	}
	for k := range allStmts(sample()) {
		for b, bend := range bendsOfStmt() {
			p := sample()
			bend(allStmts(p)[k])
			alike(t, fmt.Sprintf("statement %d, bend %d", k, b), sample(), p, false)
		}
	}
	for k := range allExprs(sample()) {
		for b, bend := range bendsOfExpr() {
			p := sample()
			bend(allExprs(p)[k])
			alike(t, fmt.Sprintf("expression %d, bend %d", k, b), sample(), p, false)
		}
	}
}

// TestSameLengths: lists that begin alike, and lists in another order, part.
func TestSameLengths(t *testing.T) {
	for k, bend := range []func(p *api.Prog){
		func(p *api.Prog) { p.Decls = nil },
		func(p *api.Prog) { p.Decls = p.Decls[:5] },
		func(p *api.Prog) { p.Decls = p.Decls[1:] },
		func(p *api.Prog) { p.Decls = append(p.Decls, api.Decl{}) },
		func(p *api.Prog) { p.Decls[0], p.Decls[1] = p.Decls[1], p.Decls[0] },
		func(p *api.Prog) { p.Threads = nil },
		func(p *api.Prog) { p.Threads = p.Threads[:2] },
		func(p *api.Prog) { p.Threads = append(p.Threads, nil) },
		func(p *api.Prog) { p.Threads[0], p.Threads[2] = p.Threads[2], p.Threads[0] },
		func(p *api.Prog) { p.Threads[1], p.Threads[2] = p.Threads[2], p.Threads[1] },
		func(p *api.Prog) { p.Threads[1] = []api.Stmt{{}} },
		func(p *api.Prog) { p.Threads[0] = p.Threads[0][:2] },
		func(p *api.Prog) { p.Threads[2] = nil },
		func(p *api.Prog) { p.Threads[0][0], p.Threads[0][2] = p.Threads[0][2], p.Threads[0][0] },
		func(p *api.Prog) { s := &p.Threads[0][1]; s.Body = s.Body[:1] },
		func(p *api.Prog) { s := &p.Threads[0][1]; s.Body = nil },
		func(p *api.Prog) { s := &p.Threads[0][1]; s.Else = nil },
		func(p *api.Prog) { s := &p.Threads[0][1]; s.Body, s.Else = s.Else, s.Body },
		func(p *api.Prog) { s := &p.Threads[0][1]; s.Body[0], s.Body[1] = s.Body[1], s.Body[0] },
		func(p *api.Prog) { s := &p.Threads[0][1]; s.E.Of = s.E.Of[:1] },
		func(p *api.Prog) { s := &p.Threads[0][1].Body[1].Body[1]; s.Body, s.Else = s.Else, s.Body },
		func(p *api.Prog) { s := &p.Threads[0][1].Else[1]; s.Body, s.Else = s.Else, s.Body },
	} {
		p := sample()
		bend(&p)
		alike(t, fmt.Sprintf("bend %d", k), sample(), p, false)
	}
}

// TestSameNone: nil and an empty list are the same, at any depth; a thread without statements is one.
func TestSameNone(t *testing.T) {
	alike(t, "the empty program", api.Prog{}, api.Prog{}, true)
	alike(t, "nil and empty", api.Prog{}, api.Prog{Decls: []api.Decl{}, Threads: [][]api.Stmt{}}, true)
	alike(t, "empty threads", api.Prog{Threads: [][]api.Stmt{nil, {}}}, api.Prog{Threads: [][]api.Stmt{{}, nil}}, true)
	alike(t, "a thread without statements", api.Prog{}, api.Prog{Threads: [][]api.Stmt{nil}}, false)
	alike(t, "one more of them", api.Prog{Threads: [][]api.Stmt{{}, {}}}, api.Prog{Threads: [][]api.Stmt{{}}}, false)
	alike(t, "a declaration", api.Prog{}, api.Prog{Decls: []api.Decl{{}}}, false)
	alike(t, "the empty program and another", api.Prog{}, sample(), false)
	p := sample()
	p.Threads[1] = nil
	for _, s := range allStmts(p) {
		if len(s.Body) == 0 {
			s.Body = []api.Stmt{}
		}
		if len(s.Else) == 0 {
			s.Else = []api.Stmt{}
		}
	}
	for _, e := range allExprs(p) {
		if len(e.Of) == 0 {
			e.Of = []api.Expr{}
		}
	}
	alike(t, "nil and empty within", sample(), p, true)
}

// places is where the statements stand.
func places(list []api.Stmt) []complex128 {
	var all []complex128
	for _, s := range list {
		all = append(all, s.At)
	}
	return all
}

// TestList: a statement, its Body, its Else; thread by thread; each is told whole.
func TestList(t *testing.T) {
	want := []complex128{8 + 2i, 9 + 2i, 10 + 3i, 11 + 3i, 12 + 4i, 13 + 4i, 14 + 5i, 16 + 5i, 20 + 3i, 21 + 3i, 23 + 4i, 25 + 3i, 27 + 2i, 32 + 2i}
	got := tree.List(sample())
	if !slices.Equal(places(got), want) {
		t.Fatalf("3.1: List: %v", places(got))
	}
	for k, s := range allStmts(sample()) {
		if show(got[k]) != show(*s) {
			t.Errorf("3.1: List, statement %d: %s, not %s", k, show(got[k]), show(*s))
		}
	}
}

// TestListShapes: what counts is where a statement stands, whatever its kind.
func TestListShapes(t *testing.T) {
	at := func(n int, body, other []api.Stmt) api.Stmt {
		return api.Stmt{Kind: n, At: complex(float64(n), 0), Body: body, Else: other}
	}
	block := func(l ...api.Stmt) []api.Stmt { return l }
	for k, c := range []struct {
		threads [][]api.Stmt
		want    []complex128
		of      []int
	}{
		{nil, nil, nil},
		{[][]api.Stmt{nil}, nil, nil},
		{[][]api.Stmt{{}, nil, {}}, nil, nil},
		{[][]api.Stmt{block(at(1, nil, nil))}, []complex128{1}, []int{0}},
		{[][]api.Stmt{nil, block(at(1, nil, nil))}, []complex128{1}, []int{1}},
		{[][]api.Stmt{block(at(1, nil, nil)), nil}, []complex128{1}, []int{0}},
		{[][]api.Stmt{block(at(1, nil, nil), at(2, nil, nil)), block(at(3, nil, nil))}, []complex128{1, 2, 3}, []int{0, 0, 1}},
		{[][]api.Stmt{block(at(3, nil, nil)), block(at(2, nil, nil)), block(at(1, nil, nil))}, []complex128{3, 2, 1}, []int{0, 1, 2}},
		{[][]api.Stmt{block(at(1, block(at(2, nil, nil)), block(at(3, nil, nil))), at(4, nil, nil))}, []complex128{1, 2, 3, 4}, []int{0, 0, 0, 0}},
		{[][]api.Stmt{block(at(1, nil, block(at(2, nil, nil)))), block(at(3, block(at(4, nil, nil)), nil))}, []complex128{1, 2, 3, 4}, []int{0, 0, 1, 1}},
		{[][]api.Stmt{nil, block(at(1, block(at(2, block(at(3, nil, nil)), block(at(4, nil, nil))), at(5, nil, nil)), block(at(6, nil, block(at(7, nil, nil))), at(8, nil, nil)))), nil, block(at(9, nil, nil)), block(at(10, block(at(11, nil, nil)), nil))}, []complex128{1, 2, 3, 4, 5, 6, 7, 8, 9, 10, 11}, []int{1, 1, 1, 1, 1, 1, 1, 1, 3, 4, 4}},
	} {
		p := api.Prog{Threads: c.threads}
		if got := places(tree.List(p)); !slices.Equal(got, c.want) {
			t.Errorf("3.1: List %d: %v, not %v", k, got, c.want)
		}
		if got := tree.Threads(p); !slices.Equal(got, c.of) {
			t.Errorf("3.1: Threads %d: %v, not %v", k, got, c.of)
		}
	}
}

// TestThreads: each number has its thread, those of a Body and an Else too; a thread without statements has none.
func TestThreads(t *testing.T) {
	p := sample()
	got := tree.Threads(p)
	if !slices.Equal(got, []int{0, 0, 0, 0, 0, 0, 0, 0, 0, 0, 0, 0, 0, 2}) {
		t.Errorf("3.1: Threads: %v", got)
	}
	if len(got) != len(tree.List(p)) {
		t.Errorf("3.1: %d threads of %d statements", len(got), len(tree.List(p)))
	}
	for k := range p.Threads {
		part := tree.List(api.Prog{Threads: p.Threads[k : k+1]})
		var own []complex128
		for n, s := range tree.List(p) {
			if got[n] == k {
				own = append(own, s.At)
			}
		}
		if !slices.Equal(own, places(part)) {
			t.Errorf("3.1: Threads: thread %d has %v, not %v", k, own, places(part))
		}
	}
}

// TestNames: from the left to the right, as often as they stand.
func TestNames(t *testing.T) {
	x, y, z := name("x"), name("y"), name("z")
	for k, c := range []struct {
		e    api.Expr
		want string
	}{
		{api.Expr{}, ""}, {number(3), ""}, {of(api.Add, number(1), of(api.Minus, number(2))), ""},
		{x, "x"}, {of(api.Minus, x), "x"}, {of(api.Minus, of(api.Minus, x)), "x"},
		{of(api.Add, y, x), "y x"}, {of(api.Add, x, x), "x x"}, {of(api.Div, number(1), x), "x"}, {of(api.Mod, x, number(1)), "x"},
		{of(api.Sub, of(api.Sub, z, y), x), "z y x"}, {of(api.Sub, z, of(api.Sub, y, x)), "z y x"},
		{of(api.Less, of(api.Mul, x, y), of(api.Mul, of(api.Minus, x), z)), "x y x z"},
		{of(api.Equal, of(api.Add, of(api.Add, y, number(1)), of(api.Minus, of(api.Add, x, y))), x), "y x y x"},
		{sample().Threads[0][1].E, "x y x z"},
		{api.Expr{Kind: api.Number, Name: "x"}, ""}, {api.Expr{Kind: api.Add, Name: "q", Of: []api.Expr{x, y}}, "x y"},
		{of(0, y, x), "y x"}, {of(99, x), "x"}, {of(api.Number, x), "x"}, {api.Expr{Kind: api.Name, Name: "z", Of: []api.Expr{y, x}}, "z y x"},
	} {
		if got := tree.Names(c.e); !slices.Equal(got, strings.Fields(c.want)) {
			t.Errorf("3.1: Names %d: %v, not %s", k, got, c.want)
		}
	}
	for kind := api.Minus; kind <= api.Equal; kind++ {
		if got := tree.Names(of(kind, y, x)); !slices.Equal(got, []string{"y", "x"}) {
			t.Errorf("3.1: Names of an operator of kind %d: %v", kind, got)
		}
	}
}

// TestExample: chapter 3's example.
func TestExample(t *testing.T) {
	s := api.Stmt{Kind: api.Assign, Name: "x", E: of(api.Add, name("y"), name("x"))}
	if got := tree.Touches(s); !slices.Equal(got, []string{"y", "x", "x"}) {
		t.Errorf("3.1: Touches of x = y + x: %v", got)
	}
}

// TestTouches: of each kind; all other fields are filled, and do not count.
func TestTouches(t *testing.T) {
	e := of(api.Sub, name("b"), of(api.Mul, name("a"), name("b")))
	body := []api.Stmt{{Kind: api.Assign, Name: "q", E: name("r")}, {Kind: api.Recv, Name: "c", Other: "s"}}
	for _, c := range []struct {
		kind          int
		with, without string
	}{
		{api.Assign, "b a b n", "n"}, {api.Lock, "", ""}, {api.Unlock, "", ""},
		{api.Send, "b a b", ""}, {api.Recv, "o", "o"}, {api.Print, "b a b", ""}, {api.If, "b a b", ""},
		{api.Repeat, "", ""}, {api.Goto, "", ""}, {api.Label, "", ""},
		{0, "", ""}, {-1, "", ""}, {api.Label + 1, "", ""}, {math.MaxInt, "", ""}, {math.MinInt, "", ""},
	} {
		for _, block := range [][]api.Stmt{nil, body} {
			s := api.Stmt{Kind: c.kind, Name: "n", Other: "o", N: 3, E: e, Body: block, Else: block, At: 1 + 1i}
			if got := tree.Touches(s); !slices.Equal(got, strings.Fields(c.with)) {
				t.Errorf("3.1: Touches of kind %d: %v, not %s", c.kind, got, c.with)
			}
			for _, none := range []api.Expr{{}, number(3)} {
				s.E = none
				if got := tree.Touches(s); !slices.Equal(got, strings.Fields(c.without)) {
					t.Errorf("3.1: Touches of kind %d, no name in E: %v, not %s", c.kind, got, c.without)
				}
			}
		}
	}
	if got := tree.Touches(api.Stmt{Kind: api.If, Body: body, Else: body}); len(got) != 0 {
		t.Errorf("3.1: Touches of a Body and an Else: %v", got)
	}
}

// TestTouchesEach: of each statement of a program.
func TestTouchesEach(t *testing.T) {
	want := []string{"", "x y x z", "y x x", "", "w", "w", "w", "z", "", "x", "z", "", "", "x"}
	for k, s := range tree.List(sample()) {
		if got := tree.Touches(s); !slices.Equal(got, strings.Fields(want[k])) {
			t.Errorf("3.1: Touches of statement %d: %v, not %s", k, got, want[k])
		}
	}
}

// show tells all of a thing, its places too.
func show(x any) string { return shown(reflect.ValueOf(x), false) }

// showRoom is show, with what is in the spare room of each list.
func showRoom(x any) string { return shown(reflect.ValueOf(x), true) }

func shown(v reflect.Value, room bool) string {
	var b strings.Builder
	switch v.Kind() {
	case reflect.Slice:
		n := v.Len()
		if room {
			v = v.Slice(0, v.Cap())
		}
		for k := range v.Len() {
			if k == n {
				b.WriteString("| ")
			}
			b.WriteString(shown(v.Index(k), room) + " ")
		}
		return "[" + b.String() + "]"
	case reflect.Struct:
		for k := range v.NumField() {
			b.WriteString(shown(v.Field(k), room) + " ")
		}
		return "{" + b.String() + "}"
	}
	return fmt.Sprintf("%#v", v.Interface())
}

// lists is each list in v: in it, and in what it holds, at any depth.
func lists(v reflect.Value) []reflect.Value {
	var all []reflect.Value
	switch v.Kind() {
	case reflect.Slice:
		all = append(all, v)
		for k := range v.Len() {
			all = append(all, lists(v.Index(k))...)
		}
	case reflect.Struct:
		for k := range v.NumField() {
			all = append(all, lists(v.Field(k))...)
		}
	}
	return all
}

// apart tells if no two of the lists share any memory, spare room included.
func apart(all []reflect.Value) bool {
	type span struct{ first, end uintptr }
	var spans []span
	for _, v := range all {
		if n := v.Cap(); n > 0 {
			first := v.Pointer()
			spans = append(spans, span{first, first + uintptr(n)*v.Type().Elem().Size()})
		}
	}
	slices.SortFunc(spans, func(a, b span) int {
		if a.first < b.first {
			return -1
		}
		return 1
	})
	for k := 1; k < len(spans); k++ {
		if spans[k].first < spans[k-1].end {
			return false
		}
	}
	return true
}

// roomy is list with spare room behind it, in which something stands.
func roomy[T any](list []T, spare ...T) []T {
	return append(slices.Clip(slices.Clone(list)), spare...)[:len(list)]
}

func roomyExpr(e api.Expr) api.Expr {
	of := slices.Clone(e.Of)
	for k := range of {
		of[k] = roomyExpr(of[k])
	}
	e.Of = roomy(of, name("spare"), number(9))
	return e
}

func roomyBlock(block []api.Stmt) []api.Stmt {
	block = slices.Clone(block)
	for k := range block {
		s := &block[k]
		s.E, s.Body, s.Else = roomyExpr(s.E), roomyBlock(s.Body), roomyBlock(s.Else)
	}
	return roomy(block, api.Stmt{Kind: api.Assign, Name: "spare", E: name("spare")}, api.Stmt{N: 9})
}

// roomySample is sample, each of its lists with spare room, the empty ones too.
func roomySample() api.Prog {
	p := sample()
	for k, block := range p.Threads {
		p.Threads[k] = roomyBlock(block)
	}
	return api.Prog{Decls: roomy(p.Decls, api.Decl{Name: "spare"}), Threads: roomy(p.Threads, []api.Stmt{{Name: "spare"}}, nil)}
}

// TestCopy: the same, its places too.
func TestCopy(t *testing.T) {
	for k, p := range []api.Prog{{}, {Decls: []api.Decl{{}}}, {Threads: [][]api.Stmt{nil}}, {Threads: [][]api.Stmt{{}, {{}}, {}}}, sample()} {
		c := tree.Copy(p)
		alike(t, fmt.Sprintf("Copy of program %d", k), p, c, true)
		if show(c) != show(p) {
			t.Errorf("3.1: Copy of program %d: %s, not %s", k, show(c), show(p))
		}
	}
	p := roomySample()
	alike(t, "Copy, with spare room", p, tree.Copy(p), true)
	if c := tree.Copy(tree.Copy(p)); show(c) != show(sample()) {
		t.Errorf("3.1: Copy of a Copy: %s", show(c))
	}
}

// TestCopyOfPlaces: places that are no numbers are copied as well.
func TestCopyOfPlaces(t *testing.T) {
	nan := complex(math.NaN(), math.Inf(-1))
	p := api.Prog{Decls: []api.Decl{{At: nan}}, Threads: [][]api.Stmt{{{At: nan, Body: []api.Stmt{{At: nan}}}}}}
	if c := tree.Copy(p); show(c) != show(p) {
		t.Errorf("3.1: Copy: %s, not %s", show(c), show(p))
	}
}

// TestCopyOwn: a change of the one, at any depth, leaves the other as it was.
func TestCopyOwn(t *testing.T) {
	for _, back := range []bool{false, true} {
		for k := range allStmts(sample()) {
			for _, bend := range bendsOfStmt() {
				ownAfter(t, back, func(p api.Prog) { bend(allStmts(p)[k]) })
			}
			ownAfter(t, back, func(p api.Prog) { allStmts(p)[k].At = 99 })
		}
		for k := range allExprs(sample()) {
			for _, bend := range bendsOfExpr() {
				ownAfter(t, back, func(p api.Prog) { bend(allExprs(p)[k]) })
			}
		}
		for k := range sample().Decls {
			for _, bend := range bendsOfDecl() {
				ownAfter(t, back, func(p api.Prog) { bend(&p.Decls[k]) })
			}
			ownAfter(t, back, func(p api.Prog) { p.Decls[k].At = 99 })
		}
		for k := range sample().Threads {
			ownAfter(t, back, func(p api.Prog) { p.Threads[k] = []api.Stmt{{Name: "q"}} })
		}
	}
}

// ownAfter bends a Copy (or, back, what it was made of), and looks at the other.
func ownAfter(t *testing.T, back bool, bend func(p api.Prog)) {
	t.Helper()
	bent, other := roomySample(), api.Prog{}
	if other = tree.Copy(bent); !back {
		bent, other = other, bent
	}
	was := showRoom(other)
	bend(bent)
	if showRoom(other) != was {
		t.Errorf("3.1: Copy: a change is seen in the other (back: %t)", back)
	}
	alike(t, "the other, behind a change", other, sample(), true)
}

// TestHandedIn: what is handed in stays as it was, its spare room included; no answer shares memory with it.
func TestHandedIn(t *testing.T) {
	p, q := roomySample(), roomySample()
	was := showRoom(p)
	answers := []any{tree.Copy(p), tree.List(p), tree.Threads(p)}
	for _, s := range tree.List(p) {
		answers = append(answers, s)
	}
	for _, s := range allStmts(p) {
		answers = append(answers, tree.Touches(*s), tree.Names(s.E))
		tree.SameExpr(s.E, q.Threads[0][1].E)
	}
	tree.Same(p, q)
	if showRoom(p) != was || showRoom(q) != was {
		t.Error("R2: what was handed in is another")
	}
	for k, a := range answers {
		if !apart(append(lists(reflect.ValueOf(a)), lists(reflect.ValueOf(p))...)) {
			t.Errorf("R2: answer %d shares memory with what was handed in", k)
		}
	}
}

// TestApart: no two lists of one answer share memory, though those that were handed in do.
func TestApart(t *testing.T) {
	parts := []api.Expr{name("x"), of(api.Minus, name("y"))}
	both := api.Expr{Kind: api.Add, Of: []api.Expr{{Kind: api.Add, Of: parts}, {Kind: api.Sub, Of: parts}}}
	block := []api.Stmt{{Kind: api.Print, E: both}, {Kind: api.Assign, Name: "x", E: both}}
	outer := []api.Stmt{{Kind: api.If, E: both, Body: block, Else: block}, {Kind: api.Repeat, N: 1, Body: block[:1]}}
	woven := api.Prog{Threads: [][]api.Stmt{outer, outer, block, block[1:]}}
	for k, p := range []api.Prog{sample(), roomySample(), woven} {
		if !apart(lists(reflect.ValueOf(tree.Copy(p)))) {
			t.Errorf("R2: Copy %d: lists that share memory", k)
		}
		if !apart(lists(reflect.ValueOf(tree.List(p)))) {
			t.Errorf("R2: List %d: lists that share memory", k)
		}
		alike(t, "Copy", p, tree.Copy(p), true)
	}
}

// TestAnswersApart: what one answer is turned into is not seen in the next.
func TestAnswersApart(t *testing.T) {
	p := sample()
	first, second := tree.List(p), tree.List(p)
	was := show(second)
	for _, s := range stmts(first) {
		s.Name = "q"
		for _, e := range exprs(&s.E) {
			e.Name = "q"
		}
	}
	if show(second) != was || show(tree.List(p)) != was {
		t.Error("R2: List: two answers share memory")
	}
	e := of(api.Add, name("a"), name("b"))
	tree.Names(e)[0] = "q"
	tree.Touches(api.Stmt{Kind: api.Print, E: e})[1] = "q"
	if got := tree.Names(e); !slices.Equal(got, []string{"a", "b"}) {
		t.Errorf("R2: Names, once an answer was changed: %v", got)
	}
}

// deepProg nests n blocks around a print, and n operators around its one name.
func deepProg(n int, bottom string) api.Prog {
	e := name(bottom)
	for range n {
		e = of(api.Minus, e)
	}
	block := []api.Stmt{{Kind: api.Print, E: e}}
	for k := range n {
		s := api.Stmt{Kind: api.If, Body: block}
		if k%2 == 1 {
			s.Body, s.Else = nil, block
		}
		block = []api.Stmt{s}
	}
	return api.Prog{Threads: [][]api.Stmt{block}}
}

// TestDeep: trees that nest as deep as R1 allows.
func TestDeep(t *testing.T) {
	const n = 1 << 10
	p := deepProg(n, "x")
	alike(t, "deep", p, tree.Copy(p), true)
	alike(t, "deep", p, deepProg(n, "y"), false)
	alike(t, "deep", p, deepProg(n-1, "x"), false)
	list := tree.List(p)
	if len(list) != n+1 || len(tree.Threads(p)) != n+1 {
		t.Fatalf("3.1: %d statements, %d threads", len(list), len(tree.Threads(p)))
	}
	if got := tree.Touches(list[n]); !slices.Equal(got, []string{"x"}) {
		t.Errorf("3.1: Touches of the innermost: %v", got)
	}
}

// TestWide: long lists, in one block and over many threads.
func TestWide(t *testing.T) {
	const n = 5000
	var p api.Prog
	e := of(api.Add)
	for k := range n {
		e.Of = append(e.Of, name(fmt.Sprint("v", k)))
		p.Threads = append(p.Threads, []api.Stmt{{Kind: api.Goto, N: 2 * k}, {Kind: api.Goto, N: 2*k + 1}})
	}
	list, threads, names := tree.List(p), tree.Threads(p), tree.Names(e)
	if len(list) != 2*n || len(threads) != 2*n || len(names) != n {
		t.Fatalf("3.1: %d statements, %d threads, %d names", len(list), len(threads), len(names))
	}
	for k := range list {
		if list[k].N != k || threads[k] != k/2 {
			t.Fatalf("3.1: statement %d: %d, of thread %d", k, list[k].N, threads[k])
		}
	}
	for k, s := range names {
		if s != fmt.Sprint("v", k) {
			t.Fatalf("3.1: name %d: %s", k, s)
		}
	}
}
