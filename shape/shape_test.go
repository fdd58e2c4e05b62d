package shape_test

import (
	"slices"
	"testing"

	"emend/api"
	"emend/shape"
	"emend/syntax"
	"emend/term"
	"emend/trials"
)

type flaws = []api.Flaw

func fl(rule uint8, part int) api.Flaw {
	return api.Flaw{Rule: rule, Part: part}
}

func TestP13_1Text(t *testing.T) {
	for _, c := range []struct {
		goal uint8
		s    string
		want flaws
	}{
		{api.GStmts, "x", flaws{fl(11, 1)}}, {api.GStmts, "f()", nil}, {api.GStmts, "<-c", nil}, {api.GStmts, "(f())", nil}, {api.GStmts, "((<-c))", nil}, {api.GStmts, "-c", flaws{fl(11, 1)}}, {api.GStmts, "f", flaws{fl(11, 1)}}, {api.GStmts, "(x)", flaws{fl(11, 1)}},
		{api.GStmts, "a, b := f()", nil}, {api.GStmts, "a.b := 1", flaws{fl(6, 1)}}, {api.GStmts, "a, b[c] := 1, 2", flaws{fl(6, 1)}}, {api.GStmts, "a.b = 1", nil}, {api.GStmts, "(a) := 1", flaws{fl(6, 1)}},
		{api.GStmts, "a, b = 1, 2, 3", flaws{fl(7, 1)}}, {api.GStmts, "a = 1, 2", flaws{fl(7, 1)}}, {api.GStmts, "a, b, c = 1", nil}, {api.GStmts, "a, b := 1, 2", nil}, {api.GStmts, "a, b += 1, 2", flaws{fl(7, 1)}}, {api.GStmts, "a, b += 1", flaws{fl(7, 1)}}, {api.GStmts, "a += 1, 2", flaws{fl(7, 1)}}, {api.GStmts, "a += 1", nil}, {api.GStmts, "a.b, c := 1, 2, 3", flaws{fl(6, 1), fl(7, 1)}},
		{api.GType, "func(a, b int)", nil}, {api.GType, "func(a.b, c int)", flaws{fl(3, 3)}}, {api.GType, "func(a int, b)", flaws{fl(3, 6)}}, {api.GType, "func(a, b)", nil}, {api.GType, "func(a, *b, c int)", flaws{fl(3, 6)}}, {api.GType, "func(int, a b, c)", flaws{fl(3, 9)}}, {api.GType, "func(...a, b c)", flaws{fl(4, 3)}},
		{api.GType, "func(a ...b)", nil}, {api.GType, "func(a ...b, c d)", flaws{fl(4, 3)}}, {api.GType, "func(...a)", nil}, {api.GType, "func(...a, ...b)", flaws{fl(4, 3)}}, {api.GType, "func(...[]a, b c)", flaws{fl(3, 3), fl(4, 3)}},
		{api.GExpr, "[...]int{1}", nil}, {api.GType, "[...]int", flaws{fl(1, 0)}}, {api.GExpr, "[...]int(x)", flaws{fl(1, 1)}}, {api.GExpr, "f([...]int{})", nil}, {api.GExpr, "[][...]int{}", flaws{fl(1, 2)}}, {api.GExpr, "T{[...]a(b)}", flaws{fl(1, 4)}},
		{api.GExpr, "x.(type)", flaws{fl(2, 0)}}, {api.GStmts, "switch x.(type) {}", nil}, {api.GStmts, "switch (x.(type)) {}", flaws{fl(2, 4)}}, {api.GStmts, "x.(type)", flaws{fl(11, 1), fl(2, 2)}},
		{api.GStmts, "go f", flaws{fl(5, 1)}}, {api.GStmts, "go f()", nil}, {api.GStmts, "go (f())", flaws{fl(5, 1)}}, {api.GStmts, "defer func(){}", flaws{fl(5, 1)}}, {api.GStmts, "defer func(){}()", nil},
		{api.GStmts, "switch a {default: case b: default: default:}", flaws{fl(8, 12), fl(8, 15)}}, {api.GStmts, "switch {default: switch {default:}}", nil}, {api.GStmts, "select {default: default:}", flaws{fl(8, 6)}}, {api.GStmts, "switch a.(type) {default: default:}", flaws{fl(8, 9)}},
		{api.GStmts, "select {case a <- b: case <-a: case (<-a): case a := <-b: case a, b = <-c: default:}", nil}, {api.GStmts, "select {case f():}", flaws{fl(9, 3)}}, {api.GStmts, "select {case a += <-b:}", flaws{fl(9, 3)}}, {api.GStmts, "select {case a, b, c = <-d:}", flaws{fl(9, 3)}}, {api.GStmts, "select {case a = b:}", flaws{fl(9, 3)}}, {api.GStmts, "select {case a, b = <-c, <-d:}", flaws{fl(9, 3)}}, {api.GStmts, "select {case a++:}", flaws{fl(9, 3)}}, {api.GStmts, "select {case a = (<-b):}", nil}, {api.GStmts, "select {case x:}", flaws{fl(9, 3), fl(11, 4)}},
		{api.GFile, "package p; func (a T) f()", nil}, {api.GFile, "package p; func () f()", flaws{fl(10, 4)}}, {api.GFile, "package p; func (a, b T) f()", flaws{fl(10, 4)}}, {api.GFile, "package p; func (a T) f[K any]()", flaws{fl(10, 4)}}, {api.GFile, "package p; func f[K any]()", nil}, {api.GFile, "package p; func (a ...T) f()", flaws{fl(15, 4)}}, {api.GFile, "package p; func f() (a ...T)", flaws{fl(15, 8)}}, {api.GFile, "package p; func f() (...T)", flaws{fl(15, 8)}}, {api.GFile, "package p; func (a ...T) f[K any]()", flaws{fl(10, 4), fl(15, 4)}},
		{api.GStmts, "for a, b, c = range d {}", flaws{fl(12, 1)}}, {api.GStmts, "for a, b := range c {}", nil}, {api.GStmts, "for a.b := range c {}", flaws{fl(12, 1)}}, {api.GStmts, "for a.b = range c {}", nil}, {api.GStmts, "for range c {}", nil}, {api.GStmts, "for a, b, c := range d {}", flaws{fl(12, 1)}},
		{api.GFile, "package p; import `a`; import b \"c\"", nil}, {api.GType, "struct{a b `c`; d \"e\"}", nil}, {api.GStmts, "const a; const (b; c)", flaws{fl(14, 3), fl(14, 10)}}, {api.GStmts, "const (a = 1; b)", nil}, {api.GStmts, "var a b; var (c d)", nil},
		{api.GExpr, "a + b", nil}, {api.GStmts, "", nil}, {api.GType, "func() (a, b)", nil}, {api.GType, "func(func() (...a))", flaws{fl(15, 6)}},
	} {
		got, f := shape.Text(c.goal, c.s)
		if f != (api.Fault{}) || !slices.Equal(got, c.want) {
			t.Errorf("Text(%d, %q) = %v, %v; want %v", c.goal, c.s, got, f, c.want)
		}
		l, _ := syntax.Term(c.goal, c.s)
		if again, e := shape.Flaws(l); e != api.OK || !slices.Equal(again, got) {
			t.Errorf("Flaws of the term of %q = %v, %d", c.s, again, e)
		}
	}
	for s, want := range map[string]api.Fault{"a b": {Err: api.ErrSyntax, At: 2}, "1x": {Err: api.ErrToken}, ")": {Err: api.ErrNest}} {
		if got, f := shape.Text(api.GExpr, s); f != want || len(got) != 0 {
			t.Errorf("Text(%q) = %v, %v", s, got, f)
		}
	}
	if got, f := shape.Text(9, "a"); f.Err != api.ErrArg || len(got) != 0 {
		t.Errorf("Text of no goal = %v, %v", got, f)
	}
}

// TestP13_1Terms: terms that no text has.
func TestP13_1Terms(t *testing.T) {
	for s, want := range map[string]flaws{
		`(5 (0) (27 "1"))`: {fl(13, 0)}, `(5 (0) (27 "'a'"))`: {fl(13, 0)}, "(5 (0) (27 \"`a`\"))": nil, `(5 (27 "1") (27 "\"a\""))`: nil, `(22 (26 "a") (27 "1i"))`: {fl(13, 0)}, `(22 (27 "1") (0))`: nil, `(21 (0) (0) (27 "1"))`: {fl(13, 0)}, `(21 (0) (27 "1") (0))`: nil,
		`(15 "..." (0) (0))`: nil, `(13 (15 "..." (0) (0)) (0))`: nil, `(14 (15 "..." (0) (0)) (0))`: {fl(4, 1)}, `(14 (0) (15 (0) (0)))`: nil, `(14 (15 (0) (0)) (13 (0)) (15 (0) (26 "a")) (15 (26 "b") (0)))`: {fl(3, 1)},
		`(25 (62 (0) (0)) (64 (0) (0)))`: {fl(8, 4)}, `(13 (62 (0) (0)) (62 (0) (0)))`: nil, `(25 (67 (0) (0)) (62 (0) (0)))`: nil, `(25 (62 (26 "a") (0)) (62 (0) (0)))`: nil, `(6 (0) (0) (0))`: nil, `(3 "const" (6 (0) (0) (0)))`: {fl(14, 1)}, `(3 "var" (6 (0) (0) (0)))`: nil, `(4 "const" (0) (6 (0) (0) (0)))`: nil, `(3 "const" (6 (0) (0) (11)))`: nil,
		`(53 ":=" (30 (26 "a") (11)) (26 "b"))`: {fl(6, 0), fl(7, 0)}, `(53 "=" (26 "a") (26 "b"))`: nil, `(53 "+=" (26 "a") (26 "b"))`: {fl(7, 0)}, `(66 ":=" (31 (0) (0) (0) (0)) (0) (0))`: {fl(12, 0)}, `(66 (26 "a") (0) (0))`: nil, `(8 (26 "a") (0) (0) (0) (0))`: {fl(10, 0)}, `(8 (28 (0)) (0) (0) (0) (0))`: nil, `(8 (28 (0)) (0) (26 "a") (0) (0))`: {fl(10, 0)},
		`(9 (14 (15 "..." (0) (0))) (0))`: nil, `(9 (0) (14 (0) (15 "..." (0) (0))))`: {fl(15, 0)}, `(9 (0) (13 (15 "..." (0) (0))))`: nil, `(8 (14 (15 "..." (0) (0))) (0) (0) (0) (0))`: {fl(15, 0)}, `(39 (28 (42 (0))) (0))`: {fl(1, 2)}, `(39 (0) (42 (0)))`: {fl(1, 2)}, `(64 (26 "a") (0))`: {fl(9, 0)}, `(64 (53 "=" (28 (0)) (28 (28 (36 "<-" (0))))) (0))`: nil,
		`(50 (28 (28 (36 "-" (0)))))`: {fl(11, 0)}, `(54 (28 (34 (0) (0))))`: {fl(5, 0)},
	} {
		l, e := term.Read(s)
		if e != api.OK {
			t.Fatalf("Read(%s) = %d", s, e)
		}
		if got, e := shape.Flaws(l); e != api.OK || !slices.Equal(got, want) {
			t.Errorf("Flaws(%s) = %v, %d; want %v", s, got, e, want)
		}
	}
	for _, l := range [][]api.Part{nil, {{Kind: 99}}, {{Kind: api.KGo}}, {{Kind: api.KName, Word: "if"}}, {{Kind: api.KParen, Kids: 1}}} {
		if got, e := shape.Flaws(l); e != api.ErrTree || len(got) != 0 {
			t.Errorf("Flaws(%v) = %v, %d", l, got, e)
		}
	}
}

// within are the flaws that stand in the parts from one on up to another, counted from the first.
func within(l flaws, from, to int) flaws {
	var out flaws
	for _, f := range l {
		if f.Part >= from && f.Part < to {
			out = append(out, fl(f.Rule, f.Part-from))
		}
	}
	return out
}

func TestP13_2(t *testing.T) {
	d := trials.New(13)
	for i := 0; i < 1500; i++ {
		s, more := trials.Text(api.GStmts, d, 3), trials.Text(api.GStmts, d, 2)
		l, _ := syntax.Term(api.GStmts, s)
		all, e := shape.Flaws(l)
		if e != api.OK || !slices.IsSortedFunc(all, func(a, b api.Flaw) int { return (a.Part-b.Part)*100 + int(a.Rule) - int(b.Rule) }) {
			t.Fatalf("Flaws of %q = %v, %d", s, all, e)
		}
		for j := range l {
			end := term.End(l, j)
			part, e := shape.Flaws(l[j:end:end])
			if e != api.OK || !slices.Equal(within(part, 1, end), within(within(all, j, end), 1, end)) {
				t.Fatalf("flaws within part %d of %q: %v of %v", j, s, part, all)
			}
		}
		m, _ := syntax.Term(api.GStmts, more)
		two, _ := shape.Flaws(m)
		both := append(append([]api.Part{{Kind: api.KStmts, Kids: l[0].Kids + m[0].Kids}}, l[1:]...), m[1:]...)
		want := slices.Clone(all)
		for _, f := range two {
			want = append(want, fl(f.Rule, f.Part+len(l)-1))
		}
		if got, _ := shape.Flaws(both); !slices.Equal(got, want) {
			t.Fatalf("flaws of %q and %q: %v, want %v", s, more, got, want)
		}
	}
}

// TestR1: many params, many clauses and deep brackets end soon.
func TestR1(t *testing.T) {
	params := []api.Part{{Kind: api.KParams, Kids: 40000}}
	clauses := []api.Part{{Kind: api.KClauses, Kids: 40000}}
	deep := []api.Part{{Kind: api.KExprStmt, Kids: 1}}
	for range 40000 {
		params = append(params, api.Part{Kind: api.KParam, Kids: 2}, api.Part{}, api.Part{Kind: api.KName, Word: "a"})
		clauses = append(clauses, api.Part{Kind: api.KCase, Kids: 2}, api.Part{}, api.Part{})
		deep = append(deep, api.Part{Kind: api.KParen, Kids: 1})
	}
	params[len(params)-2] = api.Part{Kind: api.KName, Word: "b"}
	deep = append(deep, api.Part{Kind: api.KName, Word: "a"})
	a, _ := shape.Flaws(params)
	b, _ := shape.Flaws(clauses)
	c, _ := shape.Flaws(deep)
	if len(a) != 0 || len(b) != 39999 || len(c) != 1 {
		t.Errorf("%d, %d, %d flaws", len(a), len(b), len(c))
	}
}

// TestR3: what is handed in stays.
func TestR3(t *testing.T) {
	l := []api.Part{{Kind: api.KGuard, Kids: 1}, {Kind: api.KName, Word: "a"}, {Kind: 99}}
	got, e := shape.Flaws(l[:2])
	if e != api.OK || len(got) != 1 || l[0].Kids != 1 || l[2].Kind != 99 {
		t.Errorf("Flaws = %v, %d", got, e)
	}
}
