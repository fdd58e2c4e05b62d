// Package whole_test holds the program as a whole against DOC.md: its examples, its rules R1 to
// R6, its promises P1 to P8.
package whole_test

import (
	"fmt"
	"math"
	"reflect"
	"slices"
	"strings"
	"testing"

	"emend/api"
	"emend/class"
	"emend/console"
	"emend/driver"
	"emend/fill"
	"emend/find"
	"emend/guard"
	"emend/lines"
	"emend/match"
	"emend/nest"
	"emend/number"
	"emend/patch"
	"emend/pick"
	"emend/quoted"
	"emend/render"
	"emend/report"
	"emend/rule"
	"emend/runes"
	"emend/scan"
	"emend/semi"
	"emend/shape"
	"emend/span"
	"emend/syntax"
	"emend/term"
	"emend/tree"
	"emend/trials"
)

func read(t *testing.T, short ...string) []api.Rule {
	t.Helper()
	l, f := rule.Read(trials.Rules(short...))
	if f != (api.Fault{}) {
		t.Fatalf("rules %q: %v", short, f)
	}
	return l
}

func show(goal uint8, s string) string {
	l, f := syntax.Term(goal, s)
	if f != (api.Fault{}) {
		return fmt.Sprint(f)
	}
	x, _ := term.Show(l)
	return x
}

// TestExamples: the ten examples of the whole.
func TestExamples(t *testing.T) {
	l, _ := scan.All("x:=1 // c")
	m, _ := semi.Of("x:=1 // c")
	if len(l) != 5 || l[4] != (api.Token{Kind: api.TLine, From: 5, To: 9}) || len(m) != 4 || m[3] != (api.Token{Kind: api.TSemi, From: 4, To: 4}) {
		t.Errorf("1: %v, %v", l, m)
	}
	if got := show(api.GExpr, "a+b*c"); got != `(37 "+" (26 "a") (37 "*" (26 "b") (26 "c")))` {
		t.Errorf("2: %s", got)
	}
	if got := show(api.GStmts, "if x { y }\nelse {}"); got != "{7 11}" {
		t.Errorf("3: %s", got)
	}
	x, _ := syntax.Term(api.GStmts, "if x:=f();x{a}")
	if got, _ := render.Text(x); got != "if x := f(); x {\na\n}\n" {
		t.Errorf("4: %q", got)
	}
	y, _ := term.Read(`(37 "*" (37 "+" (26 "a") (26 "b")) (26 "c"))`)
	y, _ = guard.Put(y)
	if got, _ := render.Text(y); got != "(a + b) * c" {
		t.Errorf("5: %q", got)
	}
	for i, c := range [][4]string{
		{"6", "expr|xs exprs,y expr|f(xs, y)|f(y, xs)", "f(a, b, c)", "f(c, a, b)"}, {"7", "expr|x expr|x + x|2 * x", "a() + a()", "2 * a()"}, {"7", "expr|x expr|x + x|2 * x", "a() + b()", "a() + b()"}, {"8", "stmt|c expr,b stmts|if c { b }|for c { b }", "if x { f(a /* one */, // two\n b) }", "for x {\nf(a /* one */, // two\n b)\n}"}, {"9", "expr||x|-y", "-x", "- -y"}, {"10", "expr||a|b.c", "goto a", "goto a"},
	} {
		goal := []uint8{api.GExpr, api.GExpr, api.GExpr, api.GStmts, api.GExpr, api.GStmts}[i]
		if got, f := patch.Round(goal, c[2], read(t, c[1])); f != (api.Fault{}) || got.Text != c[3] || (got.Bad == 0) != (c[0] == "10") {
			t.Errorf("%s: %q, %v", c[0], got.Text, f)
		}
	}
}

var (
	nasty   = []string{"", "\x00", "\xff\xfe", "\ufeff\ufeff", "'", "\"\\", "`", "/*", "0x", "a b", "((((", "}{", "rule r expr\nfind\n", "(1 (2", "\n\n", "é\u2028", strings.Repeat("(", 200), strings.Repeat("-", 70000), "text \"", "run 99999999999999999999"}
	numbers = []int{math.MinInt, -1, 0, 1, 2, 7, 1 << 20, math.MaxInt}
	lists   = [][]api.Part{nil, {{}}, {{Kids: -1}}, {{Kids: math.MaxInt}}, {{Kind: 255, Kids: 1, Word: "\xff"}, {Kind: 37}}, {{Kind: api.KBinary, Kids: 2}, {Kids: math.MaxInt}, {Kids: math.MinInt}}, {{Kind: api.KCall, Kids: 0}}, {{Kind: api.KFor, Kids: 1}, {}}, {{Kind: api.KExprStmt}}, {{Kind: api.KName, Word: "a"}, {Kind: api.KName}}}
	nodes   = [][]api.Node{nil, {{}}, {{Kids: math.MaxInt, Word: math.MinInt, From: math.MinInt, To: math.MaxInt}}, {{Kids: 1}, {Kids: -1}}, {{Kind: 255}}, {{From: 1 << 40, To: 1 << 41, Word: 1 << 40}}}
	edits   = [][]api.Edit{nil, {{From: math.MinInt, To: math.MaxInt}}, {{From: 5, To: 1}}, {{From: math.MaxInt, To: math.MinInt}}, {{From: 0, To: 0}, {From: 0, To: 1, Text: "\xff"}}}
	matches = [][]api.Match{nil, {{Rule: -1}}, {{Part: -1}}, {{Rule: math.MaxInt, Part: math.MaxInt}}, {{Binds: []api.Bind{{From: math.MinInt, To: math.MaxInt}}}}, {{}, {}}, {{Binds: []api.Bind{{Name: "a", From: 1}}}}}
)

func someRules() [][]api.Rule {
	a := []api.Part{{Kind: api.KName, Word: "a"}}
	wild := api.Rule{Name: "r", Goal: api.GExpr, Find: a, By: a}
	var many []api.Hole
	for range 50 {
		many = append(many, api.Hole{Name: "a", Kind: api.HStmts})
	}
	out := [][]api.Rule{nil, {{}}, make([]api.Rule, 40), {wild}, {wild, wild}}
	for _, l := range lists {
		for _, h := range [][]api.Hole{nil, {{Name: "a", Kind: 200}}, {{Name: "a", Kind: api.HExprs}, {Name: "a"}}, many, {{Name: "a", Kind: api.HStmt}}} {
			out = append(out, []api.Rule{{Name: "r", Goal: api.GStmts, Holes: h, Find: l, By: l}}, []api.Rule{{Name: "r", Goal: api.GExpr, Holes: h, Find: a, By: l}})
		}
	}
	return out
}

// TestR1 (and P1): every call ends, and none panics, whatever it is handed.
func TestR1(t *testing.T) {
	for _, s := range nasty {
		for _, n := range numbers {
			runes.Read(s, n)
			number.Scan(s, n)
			quoted.Scan(s, n)
			scan.One(s, n)
			lines.Line(s, n)
			lines.At(s, n)
			driver.Run(api.GExpr, s, nil, n)
			patch.Some(api.GExpr, s, nil, n)
			for _, m := range numbers {
				lines.Off(s, api.Pos{Line: n, Col: m})
			}
		}
		runes.Bad(s)
		runes.All(s)
		class.Name(s)
		lines.Count(s)
		number.Kind(s)
		quoted.Value(quoted.Quote(s))
		scan.Clean(s)
		nest.Depth(s)
		term.Read(s)
		rule.Read(s)
		console.Run(s)
		console.New().Do(s)
		for _, o := range nasty {
			span.Diff(s, o)
			driver.File(api.GStmts, s, o, 2)
		}
		for goal := range 7 {
			syntax.Parse(uint8(goal), s)
			shape.Text(uint8(goal), s)
			report.Flaws(uint8(goal), s)
			for _, r := range someRules()[:8] {
				patch.Round(uint8(goal), s, r)
				report.Matches(uint8(goal), s, r)
			}
		}
		for _, l := range edits {
			span.Apply(s, l)
			span.Undo(s, l)
			span.Trim(s, l)
			report.Edits(s, l)
		}
	}
	for r := range rune(0x400) {
		class.Letter(r << 21)
		class.Base(-r)
		semi.Ends(uint8(r), "x")
	}
}

func TestR1Lists(t *testing.T) {
	rules := someRules()
	for _, l := range lists {
		term.Check(l)
		term.Show(l)
		shape.Flaws(l)
		render.Text(l)
		render.Fits(api.GExpr, l)
		guard.Put(l)
		for _, n := range numbers {
			term.End(l, n)
			term.Kids(l, n)
			term.Up(l, n)
			guard.With(l, []int{n})
			for _, m := range numbers {
				for _, by := range lists {
					term.Swap(l, n, m, by)
				}
			}
		}
		for _, m := range matches {
			pick.Pick(l, m)
			for _, r := range rules {
				fill.Step(r, l, m)
				find.All(r, l)
				rule.Show(r)
				if len(r) > 0 && len(m) > 0 {
					rule.Check(r[0])
					match.At(r[0], l, m[0].Part)
					fill.Fill(r[0], l, m[0].Binds)
				}
			}
		}
	}
	for _, l := range nodes {
		tree.Depth(l)
		for _, n := range numbers {
			tree.Check(l, n)
			tree.End(l, n)
			tree.Kids(l, n)
			tree.Up(l, n)
			tree.Own(l, n)
			tree.Over(l, n)
		}
	}
	for _, l := range edits {
		for _, n := range numbers {
			span.Check(n, l)
			span.Move(n, l, n)
		}
	}
	runes.Join([]rune{-1 << 31, 1<<31 - 1})
}

// TestR2 and R3: what was done before changes no answer, nor what was done to answers.
func TestR2(t *testing.T) {
	rules := read(t, "expr|x expr,y expr|x + y|y * x", "stmt|ss stmts|{ss}|ss; ss")
	ask := func() []any {
		l, f := syntax.Term(api.GStmts, "{a + b; c}; f(d + e)")
		m, e1 := find.All(rules, l)
		p, e2 := pick.Pick(l, m)
		s, from, e3 := fill.Step(rules, l, p)
		r, f2 := patch.Round(api.GStmts, "{a + b; c}; f(d + e)", rules)
		return []any{l, f, m, e1, p, e2, s, from, e3, r, f2, driver.Run(api.GStmts, "{a + b}", rules, 3), console.Run("text \"a\"\nterm")}
	}
	want := fmt.Sprint(ask())
	got := ask()
	for _, x := range got {
		if v := reflect.ValueOf(x); v.Kind() == reflect.Slice {
			reflect.Copy(v, reflect.MakeSlice(v.Type(), v.Len(), v.Len()))
		}
	}
	if again := fmt.Sprint(ask()); again != want {
		t.Errorf("answers are kept:\n%s\n%s", want, again)
	}
}

// TestR4: beside an error every other result is its zero value.
func TestR4(t *testing.T) {
	zero := func(name string, l ...any) {
		for _, x := range l {
			if v := reflect.ValueOf(x); !v.IsZero() && !(v.Kind() == reflect.Slice && v.Len() == 0) {
				t.Errorf("%s: %v beside an error", name, x)
			}
		}
	}
	bad := []api.Part{{Kids: 5}}
	a, b := runes.Read("\xff", 0)
	zero("runes", a, b)
	c, d, _ := number.Scan("1x", 0)
	e, f, _ := quoted.Scan("'", 0)
	zero("number, quoted", c, d, e, f)
	g, _ := scan.One("#", 0)
	h, _ := scan.All("a #")
	i, _ := semi.Of("a #")
	j, k, _ := nest.Of("a )")
	zero("scan, semi, nest", g, h, i, j, k)
	l, _ := syntax.Parse(api.GExpr, "a b")
	m, _ := syntax.Term(api.GExpr, "a b")
	zero("syntax", len(l.Nodes), len(l.Tokens), m)
	n, _ := shape.Flaws(bad)
	o, _ := render.Text(bad)
	p, q, _ := guard.With(bad, nil)
	zero("shape, render, guard", n, o, p, q)
	r, _ := rule.Read("rule r expr\nfind\na\nwith\n")
	s, _ := rule.Show([]api.Rule{{}})
	u, _ := match.At(api.Rule{}, bad, 0)
	zero("rule, match", r, s, u)
	v, _ := find.All(nil, bad)
	w, _ := find.Count(nil, bad)
	x, _ := pick.Pick(bad, nil)
	y, z, _ := fill.Step(nil, bad, nil)
	zero("find, pick, fill", v, w, x, y, z)
	aa, _ := patch.Round(api.GExpr, "a b", nil)
	bb, _ := report.Matches(api.GExpr, "a b", nil)
	cc, _ := report.Edits("a", []api.Edit{{From: 9}})
	zero("patch, report", aa.Text, aa.Picks, aa.Edits, aa.Bad, bb, cc)
	dd, _ := lines.At("a", 9)
	ee, _ := span.Apply("a", []api.Edit{{From: 9}})
	ff, _ := term.Swap(bad, 0, 1, bad)
	zero("lines, span, term", dd, ee, ff)
}

// TestR5: of several errors the one that is named first.
func TestR5(t *testing.T) {
	if e := span.Check(-1, []api.Edit{{From: 3, To: 1}}); e != api.ErrArg {
		t.Errorf("span.Check = %d", e)
	}
	if _, e := term.Swap([]api.Part{{Kids: 1}}, -1, -1, nil); e != api.ErrTree {
		t.Errorf("term.Swap = %d", e)
	}
	if _, e := find.All(make([]api.Rule, 40), nil); e != api.ErrTree {
		t.Errorf("find.All = %d", e)
	}
	if _, f := syntax.Parse(0, "\xff"); f.Err != api.ErrArg {
		t.Errorf("syntax.Parse = %v", f)
	}
}

// TestR6: a list that is empty may be nil or empty.
func TestR6(t *testing.T) {
	one := []api.Part{{Kind: api.KStmts, Kids: 1}, {Kind: api.KEmpty}}
	a, e1 := term.Swap(one, 1, 1, nil)
	b, e2 := term.Swap(one, 1, 1, []api.Part{})
	if e1 != e2 || !slices.Equal(a, b) || !term.Same(nil, []api.Part{}) {
		t.Error("term: nil and empty lists differ")
	}
	r, f := patch.Round(api.GExpr, "a", nil)
	s, g := patch.Round(api.GExpr, "a", []api.Rule{})
	if fmt.Sprint(r, f) != fmt.Sprint(s, g) || rule.Check(api.Rule{Name: "r", Goal: 2, Holes: []api.Hole{}, Find: one, By: one}) != rule.Check(api.Rule{Name: "r", Goal: 2, Find: one, By: one}) {
		t.Error("patch, rule: nil and empty lists differ")
	}
	if x, _ := span.Apply("a", []api.Edit{}); x != "a" {
		t.Error("span: an empty list changes a text")
	}
}

// TestP1: what a text is cut into is all of it, and what is read is a tree over its tokens.
func TestP1(t *testing.T) {
	d := trials.New(101)
	for i := range 400 {
		goal := uint8(1 + i%4)
		s := trials.Text(goal, d, 3)
		l, f := scan.All(s)
		whole := ""
		for _, x := range l {
			whole += s[x.From:x.To]
		}
		p, g := syntax.Parse(goal, s)
		if whole != s || f != (api.Fault{}) || g != (api.Fault{}) || tree.Check(p.Nodes, len(p.Tokens)) != api.OK {
			t.Fatalf("%q: %v, %v", s, f, g)
		}
	}
}

// TestP2: what a text is read as hangs on its tokens alone.
func TestP2(t *testing.T) {
	d := trials.New(102)
	for i := range 400 {
		goal := uint8(1 + i%4)
		s := trials.Text(goal, d, 3)
		other := " /**/ " + strings.ReplaceAll(s, " ", "\t/* a b */ ") + " // c"
		if show(goal, other) != show(goal, s) {
			t.Fatalf("%q and %q are read otherwise", s, other)
		}
	}
}

// TestP3: the first fault there is, of length, characters, lexemes, brackets, syntax in this order.
func TestP3(t *testing.T) {
	parts := []string{"a b", " )", " 1x", " \xff", strings.Repeat(" ", api.MaxText)}
	wants := []api.Errno{api.ErrSyntax, api.ErrNest, api.ErrToken, api.ErrChar, api.ErrLong}
	for i := range parts {
		s := strings.Join(parts[:i+1], "")
		for goal := api.GType; goal <= api.GFile; goal++ {
			if _, f := syntax.Term(goal, s); f.Err != wants[i] {
				t.Errorf("Term(%d, %.20q) = %v, want %d", goal, s, f, wants[i])
			}
		}
	}
}

// TestP4 and P5: what is read has a text of its own, and guarded it is read as what it is.
func TestP4P5(t *testing.T) {
	a, b := api.Part{Kind: api.KName, Word: "a"}, api.Part{Kind: api.KName, Word: "b"}
	ops := strings.Fields("|| && == < + ^ * &^")
	for _, x := range ops {
		for _, y := range ops {
			one, two := api.Part{Kind: api.KBinary, Kids: 2, Word: x}, api.Part{Kind: api.KBinary, Kids: 2, Word: y}
			for _, l := range [][]api.Part{{one, two, a, b, a}, {one, a, two, a, b}, {{Kind: api.KStar, Kids: 1}, one, a, b}, {{Kind: api.KCall, Kids: 2}, one, a, b, {Kind: api.KExprs}}} {
				put, _ := guard.Put(l)
				if !render.Fits(api.GExpr, put) {
					s, _ := render.Text(put)
					t.Errorf("%q is read otherwise", s)
				}
			}
		}
	}
}

// TestP6: just the parts are found whose instance a rule has.
func TestP6(t *testing.T) {
	rules := read(t, "expr|x expr|x + x|x", "expr|xs exprs|f(xs, 1)|f(xs)")
	for s, want := range map[string][]int{"a + a": {1, 0}, "a + b": {0, 0}, "f(1)": {0, 1}, "f(a, 1) + f(a, 1)": {1, 2}, "f(1, 2)": {0, 0}, "(a) + a": {0, 0}} {
		l, _ := syntax.Term(api.GExpr, s)
		if got, e := find.Count(rules, l); e != api.OK || !slices.Equal(got, want) {
			t.Errorf("%q: %v, %d; want %v", s, got, e, want)
		}
	}
}

// TestP7 and P8: bytes outside of what was picked stay; a run that fails answers the first text.
func TestP7P8(t *testing.T) {
	rules := read(t, "expr|x expr,y expr|x + y|f(x, y)")
	const s = "/* one */ g(a /* two */ + b,\n\tc+d) // three\n"
	got := driver.Run(api.GStmts, s, rules, 9)
	if want := "/* one */ g(f(a, b),\n\tf(c, d)) // three\n"; got != (api.Result{Status: api.Fixed, Text: want, Rounds: 1}) {
		t.Errorf("Run = %v", got)
	}
	if again := driver.Run(api.GStmts, got.Text, rules, 0); again != (api.Result{Status: api.Fixed, Text: got.Text}) {
		t.Errorf("Run again = %v", again)
	}
	bad := read(t, "expr||a|b", "expr||b|c.d")
	if got := driver.Run(api.GStmts, "a ; goto  a", bad, 9); got.Status != api.Refused || got.Text != "a ; goto  a" || got.Rounds != 1 {
		t.Errorf("Run = %v", got)
	}
}
