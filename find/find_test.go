package find_test

import (
	"slices"
	"strings"
	"testing"

	"emend/api"
	"emend/find"
	"emend/match"
	"emend/rule"
	"emend/syntax"
	"emend/term"
	"emend/trials"
)

// rules are rules told in short.
func rules(t *testing.T, short ...string) []api.Rule {
	t.Helper()
	l, f := rule.Read(trials.Rules(short...))
	if f != (api.Fault{}) {
		t.Fatalf("rules %q: %v", short, f)
	}
	return l
}

func parse(t *testing.T, goal uint8, s string) []api.Part {
	t.Helper()
	l, f := syntax.Term(goal, s)
	if f != (api.Fault{}) {
		t.Fatalf("Term(%q) = %v", s, f)
	}
	return l
}

func same(a, b api.Match) bool {
	return a.Rule == b.Rule && a.Part == b.Part && slices.Equal(a.Binds, b.Binds)
}

func TestP18_1(t *testing.T) {
	two := rules(t, "expr|x expr,y expr|x + y", "expr||a")
	got, e := find.All(two, parse(t, api.GExpr, "a + b + a"))
	want := []api.Match{
		{Rule: 0, Part: 0, Binds: []api.Bind{{Name: "x", From: 1, To: 4}, {Name: "y", From: 4, To: 5}}}, {Rule: 0, Part: 1, Binds: []api.Bind{{Name: "x", From: 2, To: 3}, {Name: "y", From: 3, To: 4}}}, {Rule: 1, Part: 2}, {Rule: 1, Part: 4},
	}
	if e != api.OK || !slices.EqualFunc(got, want, same) {
		t.Errorf("All = %v, %d", got, e)
	}
	if n, e := find.Count(two, parse(t, api.GExpr, "a + b + a")); e != api.OK || !slices.Equal(n, []int{2, 2}) {
		t.Errorf("Count = %v, %d", n, e)
	}
	l := parse(t, api.GExpr, "a")
	bad, none := api.Rule{Name: "if"}, []api.Rule(nil)
	hole := rules(t, "expr||a")[0]
	hole.Holes = []api.Hole{{Name: "z", Kind: 1}}
	for i, c := range []struct {
		rules []api.Rule
		l     []api.Part
		want  api.Errno
	}{
		{none, l, api.OK}, {two, nil, api.ErrTree}, {slices.Repeat([]api.Rule{bad}, 33), nil, api.ErrTree}, {slices.Repeat([]api.Rule{bad}, 33), l, api.ErrMany}, {slices.Repeat(two, 16), l, api.OK}, {[]api.Rule{bad}, l, api.ErrRule}, {[]api.Rule{two[0], hole, bad}, l, api.ErrHole}, {[]api.Rule{two[0], bad, hole}, l, api.ErrRule}, {two, []api.Part{{Kids: -1}}, api.ErrTree}, {two, append(slices.Clone(l), l...), api.ErrTree},
		{two, []api.Part{{Kind: 99}}, api.OK},
	} {
		m, e := find.All(c.rules, c.l)
		n, e2 := find.Count(c.rules, c.l)
		if e != c.want || e2 != c.want || e != api.OK && len(m)+len(n) > 0 || e == api.OK && len(n) != len(c.rules) {
			t.Errorf("%d: All = %v, %d; Count = %v, %d; want %d", i, m, e, n, e2, c.want)
		}
	}
}

// TestP18_1All and P18.2 (and P6): just what match.At tells, whatever stands around it.
func TestP18_1All(t *testing.T) {
	d := trials.New(18)
	some := rules(t, "expr|x expr,y expr|x + y", "expr||a", "expr|xs exprs|f(xs)", "stmt|x expr|x", "type|t type|[]t", "stmt|ss stmts|{ss}", "expr|x ident|x", "expr|x lit|x", "stmt|s stmt|b: s", "expr|x expr|x")
	for i := 0; i < 1500; i++ {
		l := parse(t, uint8(1+i%4), trials.Text(uint8(1+i%4), d, 3))
		got, e := find.All(some, l)
		var want []api.Match
		counts := make([]int, len(some))
		for p := range l {
			for n, r := range some {
				if b, ok := match.At(r, l, p); ok {
					want = append(want, api.Match{Rule: n, Part: p, Binds: b})
					counts[n]++
				}
			}
		}
		if e != api.OK || !slices.EqualFunc(got, want, same) {
			t.Fatalf("All of %v = %v, %d; want %v", l, got, e, want)
		}
		if n, e := find.Count(some, l); e != api.OK || !slices.Equal(n, counts) {
			t.Fatalf("Count of %v = %v, %d; want %v", l, n, e, counts)
		}
		back := slices.Clone(some)
		slices.Reverse(back)
		turned, _ := find.All(back, l)
		for j := range turned {
			turned[j].Rule = len(some) - 1 - turned[j].Rule
		}
		slices.SortFunc(turned, func(a, b api.Match) int { return (a.Part-b.Part)*100 + a.Rule - b.Rule })
		if !slices.EqualFunc(turned, want, same) {
			t.Fatalf("rules in another order find others in %v", l)
		}
		within(t, some, l, d.Roll(len(l)), want)
	}
}

// within holds the matches of a part, as a list of its own, against those within it.
func within(t *testing.T, some []api.Rule, l []api.Part, at int, all []api.Match) {
	end := term.End(l, at)
	part, e := find.All(some, l[at:end])
	var want []api.Match
	for _, m := range all {
		if m.Part >= at && m.Part < end {
			m.Part -= at
			m.Binds = slices.Clone(m.Binds)
			for i := range m.Binds {
				m.Binds[i].From -= at
				m.Binds[i].To -= at
			}
			want = append(want, m)
		}
	}
	if e != api.OK || !slices.EqualFunc(part, want, same) {
		t.Fatalf("part %d of %v has %v, want %v", at, l, part, want)
	}
}

// TestR1: long texts and many rules end soon.
func TestR1(t *testing.T) {
	l := parse(t, api.GStmts, strings.Repeat("f(a+b);", 6000))
	some := slices.Repeat(rules(t, "expr|x expr,y expr|x + y", "expr|xs exprs|f(xs)"), 16)
	if n, e := find.Count(some, l); e != api.OK || n[31] != 6000 || n[0] != 6000 {
		t.Errorf("Count = %v, %d", n, e)
	}
	deep := parse(t, api.GExpr, strings.Repeat("!", 10000)+"a")
	if n, e := find.Count(rules(t, "expr|x expr|x"), deep); e != api.OK || n[0] != 10001 {
		t.Errorf("Count = %v, %d", n, e)
	}
}

// TestR3: what is handed in stays; no two lists of an answer share memory.
func TestR3(t *testing.T) {
	l := append(parse(t, api.GExpr, "a + b + a"), api.Part{Kind: 99})
	two := append(rules(t, "expr|x expr,y expr|x + y", "expr||a"), api.Rule{Name: "behind"})
	m, _ := find.All(two[:2], l[:5])
	_ = append(m[0].Binds, api.Bind{Name: "new"})
	m[0].Binds[0].Name = "changed"
	if again, _ := find.All(two[:2], l[:5]); again[0].Binds[0].Name != "x" || m[1].Binds[0].Name != "x" || two[0].Holes[0].Name != "x" || two[2].Name != "behind" || l[5].Kind != 99 {
		t.Error("a list is shared or changed")
	}
}
