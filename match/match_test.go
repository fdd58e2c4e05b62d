package match_test

import (
	"maps"
	"math"
	"slices"
	"testing"

	"emend/api"
	"emend/match"
	"emend/rule"
	"emend/syntax"
	"emend/term"
	"emend/trials"
)

func parse(t *testing.T, goal uint8, s string) []api.Part {
	t.Helper()
	l, f := syntax.Term(goal, s)
	if f != (api.Fault{}) {
		t.Fatalf("Term(%q) = %v", s, f)
	}
	return l
}

// made is a rule without a By of its own.
func made(t *testing.T, goal uint8, find string, holes ...api.Hole) api.Rule {
	t.Helper()
	l := parse(t, goal, find)
	r := api.Rule{Name: "r", Goal: goal, Holes: holes, Find: l, By: []api.Part{{}}}
	if goal == api.GStmts {
		r.Find, r.By = l[1:], []api.Part{{Kind: api.KStmts}}
	}
	return r
}

func hole(name string, kind uint8) api.Hole { return api.Hole{Name: name, Kind: kind} }

func bind(name string, from, to int) api.Bind { return api.Bind{Name: name, From: from, To: to} }

func TestP17_1Examples(t *testing.T) {
	xs, ys, x, y := hole("xs", api.HExprs), hole("ys", api.HExprs), hole("x", api.HExpr), hole("y", api.HExpr)
	ss, ts, s1 := hole("ss", api.HStmts), hole("ts", api.HStmts), hole("s1", api.HStmt)
	for _, c := range []struct {
		goal    uint8
		find, s string
		holes   []api.Hole
		want    []api.Bind
		ok      bool
	}{
		{api.GExpr, "f(xs, a, ys)", "f(b, a, c, a)", []api.Hole{xs, ys}, []api.Bind{bind("xs", 3, 4), bind("ys", 5, 7)}, true}, {api.GExpr, "x + x", "a + a", []api.Hole{x}, []api.Bind{bind("x", 1, 2)}, true}, {api.GExpr, "x + x", "a + b", []api.Hole{x}, nil, false}, {api.GExpr, "f(xs)", "f()", []api.Hole{xs}, []api.Bind{bind("xs", 3, 3)}, true}, {api.GExpr, "x + x", "a(b) + a(b)", []api.Hole{x}, []api.Bind{bind("x", 1, 5)}, true},
		{api.GExpr, "f(xs, ys)", "f(a, b)", []api.Hole{ys, xs}, []api.Bind{bind("ys", 3, 5), bind("xs", 3, 3)}, true}, {api.GExpr, "f(xs, a, xs)", "f(b, a, b)", []api.Hole{xs}, []api.Bind{bind("xs", 3, 4)}, true}, {api.GExpr, "f(xs, a, xs)", "f(b, a, c)", []api.Hole{xs}, nil, false}, {api.GExpr, "f(xs, xs)", "f(a, a, a, a)", []api.Hole{xs}, []api.Bind{bind("xs", 3, 5)}, true}, {api.GExpr, "f(xs, xs)", "f(a, a, a)", []api.Hole{xs}, nil, false},
		{api.GExpr, "f(xs, ys, xs)", "f(a, b, a)", []api.Hole{xs, ys}, []api.Bind{bind("xs", 3, 3), bind("ys", 3, 6)}, true}, {api.GExpr, "f(xs)(xs, ys)", "f(a)(a, b)", []api.Hole{xs, ys}, []api.Bind{bind("xs", 4, 5), bind("ys", 7, 8)}, true}, {api.GExpr, "f(xs, x)", "f(a, b, c)", []api.Hole{xs, x}, []api.Bind{bind("xs", 3, 5), bind("x", 5, 6)}, true}, {api.GExpr, "f(xs, x)", "f()", []api.Hole{xs, x}, nil, false}, {api.GExpr, "T{xs}", "T{a: b, {c}}", []api.Hole{xs}, []api.Bind{bind("xs", 3, 10)}, true},
		{api.GExpr, "f(x, y)", "f(a)", []api.Hole{x, y}, nil, false}, {api.GExpr, "f(x)", "f(a, b)", []api.Hole{x}, nil, false}, {api.GExpr, "f(x)", "f(a...)", []api.Hole{x}, nil, false}, {api.GExpr, "f(x...)", "f(a...)", []api.Hole{x}, []api.Bind{bind("x", 3, 4)}, true}, {api.GExpr, "x", "a", []api.Hole{x}, []api.Bind{bind("x", 0, 1)}, true}, {api.GExpr, "x", "func()", []api.Hole{x}, []api.Bind{bind("x", 0, 4)}, true}, {api.GExpr, "a", "a", nil, nil, true}, {api.GExpr, "a", "b", nil, nil, false}, {api.GExpr, "x - y", "a + b", []api.Hole{x, y}, nil, false},
		{api.GStmts, "{ss; ts}", "{a; b}", []api.Hole{ts, ss}, []api.Bind{bind("ts", 2, 6), bind("ss", 2, 2)}, true}, {api.GStmts, "{ss}", "{}", []api.Hole{ss}, []api.Bind{bind("ss", 2, 2)}, true}, {api.GStmts, "{s1; ss}", "{return; b}", []api.Hole{s1, ss}, []api.Bind{bind("s1", 2, 4), bind("ss", 4, 6)}, true}, {api.GStmts, "{s1}", "{}", []api.Hole{s1}, nil, false}, {api.GStmts, "s1", "if a {}", []api.Hole{s1}, []api.Bind{bind("s1", 0, 6)}, true}, {api.GStmts, "l: s1", "l: ;", []api.Hole{s1}, []api.Bind{bind("s1", 2, 3)}, true}, {api.GStmts, "x", "f()", []api.Hole{x}, []api.Bind{bind("x", 1, 4)}, true}, {api.GStmts, "x", "return", []api.Hole{x}, nil, false}, {api.GStmts, "a, xs = ys", "a, b = c", []api.Hole{xs, ys}, []api.Bind{bind("xs", 3, 4), bind("ys", 5, 6)}, true},
		{api.GStmts, "goto l", "goto m", []api.Hole{hole("l", api.HIdent)}, []api.Bind{bind("l", 1, 2)}, true}, {api.GType, "map[t]t", "map[*a]*a", []api.Hole{hole("t", api.HType)}, []api.Bind{bind("t", 1, 3)}, true}, {api.GType, "map[t]t", "map[*a]*b", []api.Hole{hole("t", api.HType)}, nil, false},
	} {
		r, l := made(t, c.goal, c.find, c.holes...), parse(t, c.goal, c.s)
		if c.goal == api.GStmts {
			l = l[1:]
		}
		got, ok := match.At(r, l, 0)
		if ok != c.ok || !slices.Equal(got, c.want) {
			t.Errorf("%q at %q: %v, %v; want %v", c.find, c.s, got, ok, c.want)
		}
	}
}

// TestP17_1Stand: which kinds may stand for which holes, each by itself and at a statement.
func TestP17_1Stand(t *testing.T) {
	in := func(k uint8, l ...uint8) bool { return slices.Contains(l, k) }
	for k := 0; k < 256; k++ {
		kind := uint8(k)
		types := in(kind, api.KName, api.KParen, api.KSelector, api.KIndex, api.KStar) || kind >= api.KArray && kind <= api.KInterface
		for h, want := range map[uint8]bool{
			api.HExpr: kind >= api.KName && kind <= api.KInterface && kind != api.KKeyValue, api.HIdent: kind == api.KName, api.HLit: kind == api.KLit, api.HType: types,
		} {
			r := made(t, api.GExpr, "x", hole("x", h))
			l := []api.Part{{Kind: 200, Kids: 1}, {Kind: kind, Kids: 1, Word: "w"}, {Kind: 201}}
			if got, ok := match.At(r, l, 1); ok != want || ok && !slices.Equal(got, []api.Bind{bind("x", 1, 3)}) {
				t.Errorf("a hole of kind %d, a part of kind %d: %v, %v", h, k, got, ok)
			}
		}
		stmt := kind >= api.KEmpty && kind <= api.KDeclStmt && kind != api.KCase && kind != api.KComm
		if _, ok := match.At(made(t, api.GStmts, "x", hole("x", api.HStmt)), []api.Part{{Kind: kind, Word: "w"}}, 0); ok != stmt {
			t.Errorf("a statement of kind %d: %v", k, ok)
		}
		for find, h := range map[string]uint8{"f(x)": api.HExprs, "{x}": api.HStmts} {
			goal := map[uint8]uint8{api.HExprs: api.GExpr, api.HStmts: api.GStmts}[h]
			r := made(t, goal, find, hole("x", h))
			l := slices.Clone(r.Find)
			if h == api.HStmts {
				l = l[:len(l)-1]
			}
			l[len(l)-1] = api.Part{Kind: kind, Word: "w"}
			if _, ok := match.At(r, l, 0); !ok {
				t.Errorf("%s does not fit a part of kind %d", find, k)
			}
		}
	}
}

func TestP17_1Wrong(t *testing.T) {
	r, l := made(t, api.GExpr, "x + y", hole("x", api.HExpr), hole("y", api.HExpr)), parse(t, api.GExpr, "a + b")
	if _, ok := match.At(r, l, 0); !ok {
		t.Fatal("x + y does not fit a + b")
	}
	bad := r
	bad.Name = "if"
	for _, c := range []struct {
		r api.Rule
		l []api.Part
		i int
	}{{r, l, 1}, {r, l, 3}, {r, l, -1}, {r, l, math.MaxInt}, {r, l, math.MinInt}, {r, nil, 0}, {r, l[:2], 0}, {r, append(slices.Clone(l), l...), 0}, {r, []api.Part{{Kind: api.KBinary, Kids: math.MaxInt, Word: "+"}}, 0}, {bad, l, 0}, {api.Rule{}, l, 0}, {made(t, api.GExpr, "x + y", hole("x", api.HExpr), hole("z", api.HExpr)), l, 0}, {made(t, api.GExpr, "x + y", hole("x", api.HExprs)), l, 0}} {
		if got, ok := match.At(c.r, c.l, c.i); ok || len(got) != 0 {
			t.Errorf("At(%v, %v, %d) = %v", c.r, c.l, c.i, got)
		}
	}
}

// node is a list with its kids within it.
type node struct {
	api.Part
	at, end int
	kids    []*node
}

func grow(l []api.Part, at int) *node {
	x := &node{Part: l[at], at: at, end: at + 1}
	for range l[at].Kids {
		k := grow(l, x.end)
		x.kids, x.end = append(x.kids, k), k.end
	}
	return x
}

// world is what holes stand for: the parts, and how many kids.
type world map[string][3]int

// seeker finds all ways by trying them all.
type seeker struct {
	kinds map[string]uint8
	l     []api.Part
}

// hole is the hole of which a part of what is sought is the place.
func (s seeker) hole(f *node) (string, uint8) {
	stmt := f.Kind == api.KExprStmt
	if stmt {
		f = f.kids[0]
	}
	k := s.kinds[f.Word]
	if f.Kind != api.KName || stmt != (k == api.HStmt || k == api.HStmts) {
		return "", 0
	}
	return f.Word, k
}

func (s seeker) with(w world, name string, from, to, kids int) []world {
	if old, ok := w[name]; ok {
		if old[2] != kids || !slices.Equal(s.l[old[0]:old[1]], s.l[from:to]) {
			return nil
		}
		return []world{w}
	}
	w = maps.Clone(w)
	w[name] = [3]int{from, to, kids}
	return []world{w}
}

func (s seeker) part(f, p *node, w world) []world {
	name, k := s.hole(f)
	if k == api.HExprs || k == api.HStmts {
		return nil
	}
	if k > 0 {
		types := slices.Contains([]uint8{api.KName, api.KParen, api.KSelector, api.KIndex, api.KStar}, p.Kind) || p.Kind >= api.KArray && p.Kind <= api.KInterface
		expr := p.Kind >= api.KName && p.Kind <= api.KInterface && p.Kind != api.KKeyValue
		stmt := p.Kind >= api.KEmpty && p.Kind <= api.KDeclStmt && p.Kind != api.KCase && p.Kind != api.KComm
		if k == api.HExpr && expr || k == api.HIdent && p.Kind == api.KName || k == api.HLit && p.Kind == api.KLit || k == api.HType && types || k == api.HStmt && stmt {
			return s.with(w, name, p.at, p.end, 1)
		}
		return nil
	}
	if f.Kind != p.Kind || f.Word != p.Word {
		return nil
	}
	return s.kids(f.kids, p.kids, p.at+1, w)
}

func (s seeker) kids(f, p []*node, at int, w world) []world {
	if len(f) == 0 {
		if len(p) == 0 {
			return []world{w}
		}
		return nil
	}
	var out []world
	name, k := s.hole(f[0])
	if k == api.HExprs || k == api.HStmts {
		for n := 0; n <= len(p); n++ {
			to := at
			if n > 0 {
				to = p[n-1].end
			}
			for _, x := range s.with(w, name, at, to, n) {
				out = append(out, s.kids(f[1:], p[n:], to, x)...)
			}
		}
		return out
	}
	if len(p) == 0 {
		return nil
	}
	for _, x := range s.part(f[0], p[0], w) {
		out = append(out, s.kids(f[1:], p[1:], p[0].end, x)...)
	}
	return out
}

// best is the way that the document takes.
func best(r api.Rule, l []api.Part, i int) ([]api.Bind, bool) {
	s := seeker{kinds: map[string]uint8{}, l: l}
	for _, h := range r.Holes {
		s.kinds[h.Name] = h.Kind
	}
	var several []string
	for _, p := range r.Find {
		if k := s.kinds[p.Word]; p.Kind == api.KName && (k == api.HExprs || k == api.HStmts) && !slices.Contains(several, p.Word) {
			several = append(several, p.Word)
		}
	}
	ways := s.part(grow(r.Find, 0), grow(l, i), world{})
	if len(ways) == 0 {
		return nil, false
	}
	least := slices.MinFunc(ways, func(a, b world) int {
		for _, n := range several {
			if d := a[n][2] - b[n][2]; d != 0 {
				return d
			}
		}
		return 0
	})
	var binds []api.Bind
	for _, h := range r.Holes {
		binds = append(binds, bind(h.Name, least[h.Name][0], least[h.Name][1]))
	}
	return binds, true
}

// instance is the document's instance of a term by binds.
func instance(kinds map[string]uint8, f *node, l []api.Part, binds []api.Bind) []api.Part {
	name, k := seeker{kinds: kinds}.hole(f)
	if k > 0 {
		for _, b := range binds {
			if b.Name == name {
				return l[b.From:b.To]
			}
		}
	}
	out := []api.Part{f.Part}
	for _, x := range f.kids {
		out = append(out, instance(kinds, x, l, binds)...)
	}
	return out
}

// unkid is a list without its numbers of kids: what an instance says but for these.
func unkid(l []api.Part) []api.Part {
	l = slices.Clone(l)
	for i := range l {
		l[i].Kids = 0
	}
	return l
}

// TestP17_1All and P17.2: rules of many texts, held against all ways there are.
func TestP17_1All(t *testing.T) {
	d := trials.New(17)
	forms := []struct {
		goal uint8
		find string
	}{{api.GExpr, "f(xs, a, ys)"}, {api.GExpr, "f(xs, ys)"}, {api.GExpr, "f(xs, xs, ys)"}, {api.GExpr, "f(xs, ys, xs)"}, {api.GExpr, "f(ys, g(xs), x)"}, {api.GExpr, "f(x, xs, x)"}, {api.GExpr, "f(xs, g(xs, ys), ys)"}, {api.GExpr, "f(xs, x, ys, x)"}, {api.GExpr, "x + x"}, {api.GExpr, "T{xs, a: x, ys}"}, {api.GExpr, "x"}, {api.GExpr, "f(xs, ys, ys, a)"}}
	kids := []string{"a", "b", "g(a)", "g(a, b)", "g()", "1"}
	fit := 0
	for i := 0; i < 30000; i++ {
		c := forms[d.Roll(len(forms))]
		var s string
		for n := d.Roll(6); n > 0; n-- {
			s += kids[d.Roll(len(kids))] + ","
		}
		s = "f(" + s + ")"
		switch d.Roll(8) {
		case 0:
			s = kids[d.Roll(6)] + "+" + kids[d.Roll(6)]
		case 1:
			s = "T{" + s[2:len(s)-1] + "a: " + kids[d.Roll(6)] + "}"
		}
		r := made(t, c.goal, c.find)
		for _, h := range []api.Hole{hole("ys", api.HExprs), hole("x", uint8(1+d.Roll(3))), hole("xs", api.HExprs)} {
			if slices.ContainsFunc(r.Find, func(p api.Part) bool { return p.Word == h.Name }) {
				r.Holes = append(r.Holes, h)
			}
		}
		l := parse(t, c.goal, s)
		want, ok := best(r, l, 0)
		got, fits := match.At(r, l, 0)
		if ok != fits || !slices.Equal(got, want) {
			t.Fatalf("%q %v at %q: %v, %v; want %v, %v", c.find, r.Holes, s, got, fits, want, ok)
		}
		if ok {
			fit++
		}
	}
	if fit < 3000 {
		t.Errorf("only %d rules fit", fit)
	}
}

// TestP17_2 (and P6): instances of random rules are found again, in any list.
func TestP17_2(t *testing.T) {
	d := trials.New(172)
	fit := 0
	for i := 0; i < 6000; i++ {
		goal := []uint8{api.GExpr, api.GType, api.GStmts}[i%3]
		r := made(t, goal, map[bool]string{true: "{ " + trials.Text(goal, d, 2) + " }", false: trials.Text(goal, d, 2)}[goal == api.GStmts])
		for _, h := range []api.Hole{hole("a", uint8(1+d.Roll(7))), hole("x", uint8(1+d.Roll(7))), hole("T", uint8(1+d.Roll(7)))} {
			if d.Roll(2) == 0 {
				r.Holes = append(r.Holes, h)
			}
		}
		if rule.Check(r) != api.OK {
			continue
		}
		kinds := map[string]uint8{}
		for _, h := range r.Holes {
			kinds[h.Name] = h.Kind
		}
		l := slices.Clone(r.Find)
		if d.Roll(2) == 0 {
			l = parse(t, goal, trials.Text(goal, d, 3))
		}
		for at := range l {
			want, ok := best(r, l, at)
			got, fits := match.At(r, l, at)
			if ok != fits || !slices.Equal(got, want) {
				t.Fatalf("%v at %d of %v: %v, %v; want %v, %v", r, at, l, got, fits, want, ok)
			}
			if len(r.Holes) == 0 && fits != slices.Equal(r.Find, l[at:grow(l, at).end]) {
				t.Fatalf("%v without holes at %d of %v: %v", r, at, l, fits)
			}
			if !fits {
				continue
			}
			fit++
			end := grow(l, at).end
			if !slices.Equal(unkid(instance(kinds, grow(r.Find, 0), l, got)), unkid(l[at:end])) {
				t.Fatalf("the instance of %v by %v is not part %d of %v", r, got, at, l)
			}
			other := append([]api.Part{{Kind: 222, Kids: 2}, {Kind: 223}}, l[at:end]...)
			more, ok := match.At(r, other, 2)
			if !ok || len(more) != len(got) {
				t.Fatalf("%v does not fit part %d of %v in another list", r, at, l)
			}
			for n, b := range more {
				if b.From-2 != got[n].From-at || b.To-2 != got[n].To-at {
					t.Fatalf("%v in another list: %v, %v", r, more, got)
				}
			}
		}
	}
	if fit < 300 {
		t.Errorf("only %d rules fit", fit)
	}
}

// TestR1: many arguments, and deep lists, end soon.
func TestR1(t *testing.T) {
	l := []api.Part{{Kind: api.KCall, Kids: 2}, {Kind: api.KName, Word: "f"}, {Kind: api.KExprs, Kids: 20000}}
	for range 20000 {
		l = append(l, api.Part{Kind: api.KName, Word: "b"})
	}
	xs, ys := hole("xs", api.HExprs), hole("ys", api.HExprs)
	if _, ok := match.At(made(t, api.GExpr, "f(xs, a, ys)", xs, ys), l, 0); ok {
		t.Error("f(xs, a, ys) fits without an a")
	}
	if got, ok := match.At(made(t, api.GExpr, "f(xs, ys, b)", xs, ys), l, 0); !ok || got[1].To != len(l)-1 {
		t.Errorf("f(xs, ys, b): %v, %v", got, ok)
	}
	// What stands for xs is far more in its places than the list has, than 32 bits count.
	l = append([]api.Part{{Kind: api.KCall, Kids: 2}}, append(l, api.Part{Kind: api.KExprs, Kids: 1}, api.Part{Kind: api.KName, Word: "b"})...)
	for _, n := range []int{1, 2, 120000, 1 << 18} {
		r := made(t, api.GExpr, "f(xs)", xs, ys)
		r.Find = append([]api.Part{{Kind: api.KCall, Kids: 2}}, append(r.Find, api.Part{Kind: api.KExprs, Kids: n + 1}, r.Find[3])...)
		r.Find[len(r.Find)-1].Word = "ys"
		for range n {
			r.Find = append(r.Find, api.Part{Kind: api.KName, Word: "xs"})
		}
		if got, ok := match.At(r, l, 0); ok {
			t.Errorf("xs in %d places, where one part is: %v", n, got)
		}
	}
	deep := make([]api.Part, 60001)
	for i := range deep {
		deep[i] = api.Part{Kind: api.KParen, Kids: 1}
	}
	deep[60000] = api.Part{Kind: api.KName, Word: "a"}
	if got, ok := match.At(api.Rule{Name: "r", Goal: api.GExpr, Holes: []api.Hole{hole("a", api.HIdent)}, Find: deep, By: []api.Part{{}}}, deep, 0); !ok || got[0].From != 60000 {
		t.Errorf("a deep list: %v, %v", got, ok)
	}
}

// TestR3: what is handed in stays.
func TestR3(t *testing.T) {
	r := made(t, api.GExpr, "x + x", hole("x", api.HExpr))
	l := append(parse(t, api.GExpr, "a + a"), api.Part{Kind: 99})
	if _, ok := match.At(r, l[:3], 0); !ok || l[3].Kind != 99 || !term.Same(l[:3], parse(t, api.GExpr, "a + a")) || r.Find[1].Word != "x" {
		t.Error("a list that was handed in was changed")
	}
}
