package fill_test

import (
	"math"
	"slices"
	"strings"
	"testing"

	"emend/api"
	"emend/fill"
	"emend/find"
	"emend/guard"
	"emend/pick"
	"emend/rule"
	"emend/syntax"
	"emend/term"
	"emend/trials"
)

// rules are rules told in short.
func rules(t *testing.T, short ...string) []api.Rule {
	t.Helper()
	l, f := rule.Read(trials.Rules(short...))
	if f != (api.Fault{}) {
		t.Fatalf("rules %q: %v", short, f)
	}
	return l
}

func parse(t *testing.T, goal uint8, s string) []api.Part {
	t.Helper()
	l, f := syntax.Term(goal, s)
	if f != (api.Fault{}) {
		t.Fatalf("Term(%q) = %v", s, f)
	}
	return l
}

func show(l []api.Part) string {
	s, _ := term.Show(l)
	return s
}

func bind(name string, from, to int) api.Bind { return api.Bind{Name: name, From: from, To: to} }

func TestP20_1(t *testing.T) {
	r := rules(t, "expr|x expr,y expr|x + y|y + x")[0]
	l := parse(t, api.GExpr, "a * b + c")
	got, from, e := fill.Fill(r, l, []api.Bind{bind("x", 1, 4), bind("y", 4, 5)})
	if e != api.OK || show(got) != `(37 "+" (26 "c") (37 "*" (26 "a") (26 "b")))` || !slices.Equal(from, []int{-1, 4, 1, 2, 3}) {
		t.Errorf("Fill = %s, %v, %d", show(got), from, e)
	}
	two := rules(t, "stmt|ss stmts,xs exprs,s stmt|{ss; s; f(xs)}|ss; f(0, xs, 1); s; ss")[0]
	m := parse(t, api.GStmts, "{a; b; return; f(c, d)}")
	got, from, e = fill.Fill(two, m, []api.Bind{bind("ss", 3, 7), bind("xs", 13, 15), bind("s", 7, 9)})
	row := append([]api.Part{{Kind: 200, Kids: 6}}, got...)
	if want := `(200 (50 (26 "a")) (50 (26 "b")) (50 (34 (26 "f") (11 (27 "0") (26 "c") (26 "d") (27 "1")))) (56 (11)) (50 (26 "a")) (50 (26 "b")))`; e != api.OK || show(row) != want || !slices.Equal(from, []int{3, 4, 5, 6, -1, -1, -1, -1, -1, 13, 14, -1, 7, 8, 3, 4, 5, 6}) {
		t.Errorf("Fill = %s, %v, %d", show(row), from, e)
	}
	if got, from, e := fill.Fill(two, m, []api.Bind{bind("ss", 3, 3), bind("xs", 15, 15), bind("s", 7, 9)}); e != api.OK || len(got) != 8 || got[3].Kids != 2 || !slices.Equal(from, []int{-1, -1, -1, -1, -1, -1, 7, 8}) {
		t.Errorf("Fill with none = %v, %v, %d", got, from, e)
	}
	none := rules(t, "stmt||return|")[0]
	if got, from, e := fill.Fill(none, m, nil); e != api.OK || len(got)+len(from) != 0 {
		t.Errorf("Fill of nothing = %v, %v, %d", got, from, e)
	}
	hole := r
	hole.Holes = hole.Holes[:1]
	hole.Holes = append(slices.Clone(hole.Holes), api.Hole{Name: "q", Kind: 1})
	good := []api.Bind{bind("x", 1, 4), bind("y", 4, 5)}
	for i, c := range []struct {
		r     api.Rule
		l     []api.Part
		binds []api.Bind
		want  api.Errno
	}{
		{r, l, good, api.OK}, {api.Rule{}, nil, nil, api.ErrRule}, {hole, nil, nil, api.ErrHole}, {r, nil, good, api.ErrTree}, {r, l[:4], nil, api.ErrTree}, {r, l, good[:1], api.ErrArg}, {r, l, append(slices.Clone(good), bind("z", 1, 2)), api.ErrArg}, {r, l, []api.Bind{good[1], good[0]}, api.ErrArg}, {r, l, []api.Bind{bind("x", 4, 5), bind("x", 4, 5)}, api.ErrArg},
		{r, l, []api.Bind{bind("x", -1, 4), good[1]}, api.ErrArg}, {r, l, []api.Bind{bind("x", 1, 6), good[1]}, api.ErrArg}, {r, l, []api.Bind{bind("x", 4, 1), good[1]}, api.ErrArg}, {r, l, []api.Bind{bind("x", 1, 3), good[1]}, api.ErrArg}, {r, l, []api.Bind{bind("x", 2, 4), good[1]}, api.ErrArg}, {r, l, []api.Bind{bind("x", 1, 1), good[1]}, api.ErrArg}, {r, l, []api.Bind{bind("x", 0, 5), good[1]}, api.OK},
		{r, l, []api.Bind{bind("x", math.MinInt, math.MaxInt), good[1]}, api.ErrArg}, {r, l, []api.Bind{bind("x", math.MaxInt, math.MaxInt), good[1]}, api.ErrArg}, {r, m, []api.Bind{bind("x", 3, 5), bind("y", 4, 5)}, api.ErrArg}, {two, m, []api.Bind{bind("ss", 2, 3), bind("xs", 13, 15), bind("s", 7, 9)}, api.ErrArg}, {two, m, []api.Bind{bind("ss", 13, 15), bind("xs", 3, 7), bind("s", 7, 9)}, api.OK}, {two, m, []api.Bind{bind("ss", 15, 15), bind("xs", 0, 15), bind("s", 8, 9)}, api.ErrArg},
	} {
		got, from, e := fill.Fill(c.r, c.l, c.binds)
		if e != c.want || e != api.OK && len(got)+len(from) > 0 {
			t.Errorf("%d: Fill = %v, %v, %d; want %d", i, got, from, e, c.want)
		}
	}
}

// TestP20_1Long: what is made may have MaxParts parts, and no more.
func TestP20_1Long(t *testing.T) {
	list := func(n int) []api.Part {
		l := make([]api.Part, n)
		l[0] = api.Part{Kind: api.KExprs, Kids: n - 1}
		for i := range l[1:] {
			l[i+1] = api.Part{Kind: api.KName, Word: "a"}
		}
		return l
	}
	r := rules(t, "expr|xs exprs|f(xs)|f(xs, xs)")[0]
	half := (api.MaxParts - 3) / 2
	for _, c := range []struct {
		n    int
		want api.Errno
	}{{half, api.OK}, {half + 1, api.ErrLong}} {
		l := list(c.n + 1)
		got, from, e := fill.Fill(r, l, []api.Bind{bind("xs", 1, c.n+1)})
		if e != c.want || e == api.OK && len(got) != 2*c.n+3 || len(got) != len(from) {
			t.Errorf("Fill of %d parts: %d, %d", 2*c.n+3, len(got), e)
		}
		picks := []api.Match{{Rule: 0, Part: 1, Binds: []api.Bind{bind("xs", 2, c.n+1)}}}
		if _, _, e := fill.Step([]api.Rule{r}, l, picks); e != api.ErrLong {
			t.Errorf("Step of too many parts: %d", e)
		}
	}
	// What one pick makes is seen to be too long ahead of what is wrong behind it.
	l := list(half + 2)
	much := api.Match{Rule: 0, Part: 1, Binds: []api.Bind{bind("xs", 1, half+2)}}
	for i, picks := range [][]api.Match{{much, {Rule: 9}}, {{Rule: 9}, much}} {
		want := []api.Errno{api.ErrLong, api.ErrArg}[i]
		if _, _, e := fill.Step([]api.Rule{r}, l, picks); e != want {
			t.Errorf("Step with a pick that makes too much: %d, want %d", e, want)
		}
	}
	// A rule for statements makes its By without the KStmts around it.
	s := api.Rule{Name: "s", Goal: api.GStmts, Find: []api.Part{{Kind: api.KEmpty}}, By: list(api.MaxParts + 1)}
	s.By[0].Kind = api.KStmts
	if got, _, e := fill.Fill(s, list(1), nil); e != api.OK || len(got) != api.MaxParts {
		t.Errorf("Fill of MaxParts statements: %d, %d", len(got), e)
	}
	s.By = append(s.By, api.Part{Kind: api.KEmpty})
	s.By[0].Kids++
	if _, _, e := fill.Step([]api.Rule{s}, list(1), []api.Match{{}}); e != api.ErrLong {
		t.Errorf("Step of a pick that makes too many statements: %d", e)
	}
	if got, _, e := fill.Fill(s, list(1), nil); e != api.ErrLong || len(got) != 0 {
		t.Errorf("Fill of more than MaxParts statements: %d, %d", len(got), e)
	}
	for n, want := range map[int]api.Errno{api.MaxParts: api.OK, api.MaxParts + 1: api.ErrLong} {
		if got, from, e := fill.Step(nil, list(n), nil); e != want || e == api.OK && (len(got) != n || from[n-1] != n-1) {
			t.Errorf("Step of %d parts without picks: %d, %d", n, len(got), e)
		}
	}
}

// node is a list with its kids within it, and from which part each comes.
type node struct {
	api.Part
	at, from int
	kids     []*node
}

func grow(l []api.Part, at int) (*node, int) {
	x, end := &node{Part: l[at], at: at, from: at}, at+1
	for range l[at].Kids {
		k, e := grow(l, end)
		x.kids, end = append(x.kids, k), e
	}
	return x, end
}

func row(l []api.Part, from, to int) []*node {
	var out []*node
	for from < to {
		k, e := grow(l, from)
		out, from = append(out, k), e
	}
	return out
}

// instance is what stands in the place of a part of By.
func instance(r api.Rule, f *node, l []api.Part, binds []api.Bind) []*node {
	place, stmt := f, f.Kind == api.KExprStmt
	if stmt {
		place = f.kids[0]
	}
	for i, h := range r.Holes {
		if place.Kind == api.KName && place.Word == h.Name && stmt == (h.Kind == api.HStmt || h.Kind == api.HStmts) {
			return row(l, binds[i].From, binds[i].To)
		}
	}
	x := &node{Part: f.Part, from: -1}
	for _, k := range f.kids {
		x.kids = append(x.kids, instance(r, k, l, binds)...)
	}
	return []*node{x}
}

func makes(r api.Rule, l []api.Part, binds []api.Bind) []*node {
	by, _ := grow(r.By, 0)
	trees := instance(r, by, l, binds)
	if r.Goal == api.GStmts {
		return trees[0].kids
	}
	return trees
}

func (x *node) flat() ([]api.Part, []int) {
	p := x.Part
	p.Kids = len(x.kids)
	l, from := []api.Part{p}, []int{x.from}
	for _, k := range x.kids {
		a, b := k.flat()
		l, from = append(l, a...), append(from, b...)
	}
	return l, from
}

// swap puts what picks make in their places; false, where more or fewer than one tree may not stand.
func swap(x *node, rules []api.Rule, l []api.Part, picks []api.Match) bool {
	var kids []*node
	for _, k := range x.kids {
		i := slices.IndexFunc(picks, func(m api.Match) bool { return m.Part == k.at })
		if i < 0 {
			if !swap(k, rules, l, picks) {
				return false
			}
			kids = append(kids, k)
			continue
		}
		made := makes(rules[picks[i].Rule], l, picks[i].Binds)
		if len(made) != 1 && x.Kind != api.KStmts {
			return false
		}
		kids = append(kids, made...)
	}
	x.kids = kids
	return true
}

func stepped(rules []api.Rule, l []api.Part, picks []api.Match) ([]api.Part, []int, bool) {
	root, _ := grow(l, 0)
	top := &node{Part: api.Part{Kind: 222}, kids: []*node{root}}
	if !swap(top, rules, l, picks) {
		return nil, nil, false
	}
	list, from := top.kids[0].flat()
	list, from, _ = guard.With(list, from)
	return list, from, true
}

var ruleTexts = []string{
	"expr|x expr,y expr|x + y|y * x", "expr|x expr,y expr|x * y|x + y + x", "expr||a|-(b)", "expr|xs exprs,ys exprs|f(xs, a, ys)|g(ys)(xs, xs)", "stmt|ss stmts|{ss}|ss; {ss; f()}", "stmt|s stmt|b: s|s", "stmt|ss stmts,c expr|if c {ss}|if c {ss; ss}", "type|t type|[]t|map[t]t", "expr|x lit|x|(x)", "expr|x expr|-x|x", "expr|x expr|x.f|*x", "stmt|x expr|x|", "stmt|x expr|return x|x; return",
}

// TestP20_2All and P20.3: rounds over many texts, held against trees with their kids within them.
func TestP20_2All(t *testing.T) {
	d := trials.New(20)
	all := rules(t, ruleTexts...)
	done, refused := 0, 0
	for i := 0; i < 4000; i++ {
		goal := uint8(1 + i%4)
		l := parse(t, goal, trials.Text(goal, d, 3))
		some := all[d.Roll(len(all)):]
		matches, _ := find.All(some, l)
		picks, _ := pick.Pick(l, matches)
		picks = picks[d.Roll(len(picks)+1):]
		want, nums, ok := stepped(some, l, picks)
		got, from, e := fill.Step(some, l, picks)
		if ok != (e == api.OK) || !ok && e != api.ErrFit || !slices.Equal(got, want) || !slices.Equal(from, nums) {
			t.Fatalf("Step(%v, %v) = %v, %v, %d; want %v, %v", l, picks, got, from, e, want, nums)
		}
		if !ok {
			refused++
			continue
		}
		done += len(picks)
		for j, n := range from {
			if n >= 0 && (got[j].Kind != l[n].Kind || got[j].Word != l[n].Word) {
				t.Fatalf("part %d of %v comes from %v", j, got, l[n])
			}
		}
		for _, m := range picks {
			made, nums, e := fill.Fill(some[m.Rule], l, m.Binds)
			var parts []api.Part
			var along []int
			for _, x := range makes(some[m.Rule], l, m.Binds) {
				a, b := x.flat()
				parts, along = append(parts, a...), append(along, b...)
			}
			if e != api.OK || !slices.Equal(made, parts) || !slices.Equal(nums, along) {
				t.Fatalf("Fill(%v, %v) = %v, %v, %d; want %v, %v", l, m, made, nums, e, parts, along)
			}
		}
	}
	if done < 2000 || refused < 10 {
		t.Errorf("%d picks were made, %d refused", done, refused)
	}
}

// TestP20_3: a rule whose By is its Find changes nothing; without picks Step is guard.With.
func TestP20_3(t *testing.T) {
	d := trials.New(203)
	all := rules(t, ruleTexts...)
	for i := range all {
		if all[i].By = all[i].Find; all[i].Goal == api.GStmts {
			all[i].By = append([]api.Part{{Kind: api.KStmts, Kids: 1}}, all[i].Find...)
		}
	}
	for i := 0; i < 1000; i++ {
		l := parse(t, uint8(1+i%4), trials.Text(uint8(1+i%4), d, 3))
		matches, _ := find.All(all, l)
		picks, _ := pick.Pick(l, matches)
		if got, _, e := fill.Step(all, l, picks); e != api.OK || !slices.Equal(got, l) {
			t.Fatalf("Step(%v, %v) = %v, %d", l, picks, got, e)
		}
	}
	torn := []api.Part{{Kind: api.KStar, Kids: 1}, {Kind: api.KBinary, Kids: 2, Word: "+"}, {Kind: api.KName, Word: "a"}, {Kind: 200}}
	if got, from, e := fill.Step(all, torn, nil); e != api.OK || len(got) != 5 || got[1].Kind != api.KParen || !slices.Equal(from, []int{0, -1, 1, 2, 3}) {
		t.Errorf("Step without picks = %v, %v, %d", got, from, e)
	}
}

func TestP20_2Errors(t *testing.T) {
	r := rules(t, "expr|x expr,y expr|x * y|x + y", "stmt|ss stmts|{ss}|ss", "expr||a|b")
	l := parse(t, api.GExpr, "a * b * c")
	xy := func(a, b, c int) []api.Bind { return []api.Bind{bind("x", a, b), bind("y", b, c)} }
	got, from, e := fill.Step(r, l, []api.Match{{Rule: 0, Part: 1, Binds: xy(2, 3, 4)}})
	if e != api.OK || show(got) != `(37 "*" (28 (37 "+" (26 "a") (26 "b"))) (26 "c"))` || !slices.Equal(from, []int{0, -1, -1, 2, 3, 4}) {
		t.Errorf("Step = %s, %v, %d", show(got), from, e)
	}
	block, inLabel := parse(t, api.GStmts, "{a; b}"), parse(t, api.GStmts, "l: {a; b}")
	at := func(rule, part int, binds ...api.Bind) []api.Match {
		return []api.Match{{Rule: rule, Part: part, Binds: binds}}
	}
	for i, c := range []struct {
		rules []api.Rule
		l     []api.Part
		picks []api.Match
		want  api.Errno
	}{
		{slices.Repeat(r[:2], 16), l, nil, api.OK}, {slices.Repeat(r, 11), l, nil, api.ErrMany}, {r, nil, nil, api.ErrTree}, {slices.Repeat(r, 11), nil, nil, api.ErrTree}, {slices.Repeat([]api.Rule{{}}, 33), l, nil, api.ErrMany}, {[]api.Rule{r[0], {}}, l, at(9, 9), api.ErrRule}, {nil, l, at(0, 0), api.ErrArg}, {r, l, at(3, 0), api.ErrArg}, {r, l, at(-1, 0), api.ErrArg}, {r, l, at(2, 5), api.ErrArg}, {r, l, at(2, -1), api.ErrArg}, {r, l, at(2, math.MaxInt), api.ErrArg}, {r, l, at(math.MaxInt, 0), api.ErrArg}, {r, l, at(0, 0), api.ErrArg},
		{r, l, append(at(2, 2), at(2, 3)...), api.OK}, {r, l, append(at(2, 3), at(2, 2)...), api.ErrArg}, {r, l, append(at(2, 3), at(2, 3)...), api.ErrArg}, {r, l, append(at(2, 1), at(2, 3)...), api.ErrArg}, {r, l, append(at(2, 1), at(2, 4)...), api.OK}, {r, block, at(1, 1, bind("ss", 3, 7)), api.OK}, {r, block, at(1, 1, bind("ss", 3, 5)), api.OK}, {r, block, at(1, 1, bind("ss", 7, 7)), api.OK}, {r, block, at(1, 0, bind("ss", 3, 7)), api.ErrFit}, {r, block, at(1, 0, bind("ss", 3, 5)), api.OK},
		{r, inLabel, at(1, 3, bind("ss", 5, 9)), api.ErrFit}, {r, inLabel, at(1, 3, bind("ss", 5, 5)), api.ErrFit}, {r, inLabel, at(1, 3, bind("ss", 5, 7)), api.OK}, {r, inLabel, append(at(1, 3, bind("ss", 5, 9)), at(9, 9)...), api.ErrFit}, {r, inLabel, append(at(1, 3, bind("ss", 5, 7)), at(9, 9)...), api.ErrArg}, {r, inLabel, at(1, 3, bind("ss", 5, 99)), api.ErrArg},
	} {
		got, from, e := fill.Step(c.rules, c.l, c.picks)
		if e != c.want || e != api.OK && len(got)+len(from) > 0 {
			t.Errorf("%d: Step = %v, %v, %d; want %d", i, got, from, e, c.want)
		}
	}
	if got, _, _ := fill.Step(r, block, at(1, 1, bind("ss", 3, 7))); show(got) != `(13 (50 (26 "a")) (50 (26 "b")))` {
		t.Errorf("Step = %s", show(got))
	}
}

// TestP20_Much: what is made may be far more than MaxParts, than 32 bits count.
func TestP20_Much(t *testing.T) {
	row := func(n int) []api.Part {
		l := make([]api.Part, n+1)
		for i := range l {
			l[i] = api.Part{Kind: api.KName, Word: "xs"}
		}
		l[0] = api.Part{Kind: api.KExprs, Kids: n}
		return l
	}
	seek := api.Rule{Name: "r", Goal: api.GExpr, Holes: []api.Hole{{Name: "xs", Kind: api.HExprs}}, Find: row(1)}
	for _, c := range [][2]int{{1 << 15, 1 << 16}, {50000, 50000}, {1 << 16, 1 << 16}, {1 << 17, 1 << 15}, {1 << 18, 1 << 15}} {
		seek.By = row(c[0])
		l := row(c[1])
		binds := []api.Bind{bind("xs", 1, len(l))}
		if got, _, e := fill.Fill(seek, l, binds); e != api.ErrLong || len(got) != 0 {
			t.Errorf("Fill of %d places by %d parts: %d parts, %d", c[0], c[1], len(got), e)
		}
		if got, _, e := fill.Step([]api.Rule{seek}, l, []api.Match{{Binds: binds}}); e != api.ErrLong || len(got) != 0 {
			t.Errorf("Step of %d places by %d parts: %d parts, %d", c[0], c[1], len(got), e)
		}
		none := []api.Bind{bind("xs", 1, 1)}
		if got, _, e := fill.Fill(seek, l, none); e != api.OK || len(got) != 1 {
			t.Errorf("Fill of %d places by no parts: %d parts, %d", c[0], len(got), e)
		}
	}
	much := api.Rule{Name: "r", Goal: api.GExpr, Find: []api.Part{{}}, By: row(api.MaxParts - 1)}
	l := row(1 << 16)
	for _, n := range []int{1, 1 << 14, 1 << 15, 1 << 16} {
		var picks []api.Match
		for i := range n {
			picks = append(picks, api.Match{Part: i + 1})
		}
		if got, _, e := fill.Step([]api.Rule{much}, l, picks); e != api.ErrLong || len(got) != 0 {
			t.Errorf("Step of %d picks of MaxParts parts: %d parts, %d", n, len(got), e)
		}
		picks = append(picks, api.Match{Part: 1})
		if got, _, e := fill.Step([]api.Rule{much}, l, picks); e != api.ErrArg || len(got) != 0 {
			t.Errorf("Step of %d picks, the last one of a part that was picked: %d parts, %d", n, len(got), e)
		}
	}
}

// TestR1: many places and many picks end soon.
func TestR1(t *testing.T) {
	l := make([]api.Part, 50001)
	l[0] = api.Part{Kind: api.KExprs, Kids: 50000}
	var picks []api.Match
	for i := range l[1:] {
		l[i+1] = api.Part{Kind: api.KName, Word: "a"}
		picks = append(picks, api.Match{Part: i + 1})
	}
	r := rules(t, "expr||a|f("+strings.Repeat("b,", 20000)+")")[0]
	if _, _, e := fill.Step([]api.Rule{r}, l, picks); e != api.ErrLong {
		t.Errorf("Step of far too many parts: %d", e)
	}
	r = rules(t, "expr||a|-b")[0]
	if got, _, e := fill.Step([]api.Rule{r}, l, picks); e != api.OK || len(got) != 100001 {
		t.Errorf("Step of many picks: %d, %d", len(got), e)
	}
}

// TestR3: what is handed in stays; answers are new.
func TestR3(t *testing.T) {
	r := rules(t, "stmt|ss stmts|{ss}|ss; ss")
	l := append(parse(t, api.GStmts, "{a; b}"), api.Part{Kind: 99})
	before := slices.Clone(l)
	picks := []api.Match{{Part: 1, Binds: []api.Bind{bind("ss", 3, 7)}}, {Part: 77}}
	got, from, _ := fill.Step(r, l[:7], picks[:1])
	made, nums, _ := fill.Fill(r[0], l[:7], picks[0].Binds)
	for _, x := range [][]api.Part{got, made} {
		for i := range x {
			x[i].Kind = 111
		}
	}
	for i := range nums {
		from[i], nums[i] = 9, 9
	}
	if !slices.Equal(l, before) || picks[1].Part != 77 || r[0].By[0].Kind != api.KStmts || r[0].By[1].Kind != api.KExprStmt {
		t.Error("a list that was handed in was changed")
	}
}
