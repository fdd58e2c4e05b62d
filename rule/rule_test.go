package rule_test

import (
	"fmt"
	"slices"
	"strings"
	"testing"

	"emend/api"
	"emend/rule"
	"emend/syntax"
	"emend/term"
	"emend/trials"
)

const example = "rule r expr\nhole x expr\nfind\nx + x\nwith\n2 * x\nend\n"

// read is a list told as a text.
func read(t *testing.T, s string) []api.Part {
	t.Helper()
	l, e := term.Read(s)
	if e != api.OK {
		t.Fatalf("Read(%s) = %d", s, e)
	}
	return l
}

// same tells whether two rules are the same.
func same(a, b api.Rule) bool {
	return a.Name == b.Name && a.Goal == b.Goal && slices.Equal(a.Holes, b.Holes) && slices.Equal(a.Find, b.Find) && slices.Equal(a.By, b.By)
}

func holes(kind uint8, names ...string) []api.Hole {
	var l []api.Hole
	for _, n := range names {
		l = append(l, api.Hole{Name: n, Kind: kind})
	}
	return l
}

func TestP16_1(t *testing.T) {
	name, sum := `(26 "x")`, `(37 "+" (26 "x") (26 "y"))`
	many := strings.Fields("a b c d e f g h i j k l m n o p q")
	call := func(names ...string) string {
		s := `(34 (26 "F") (11`
		for _, n := range names {
			s += ` (26 "` + n + `")`
		}
		return s + "))"
	}
	for i, c := range []struct {
		name     string
		goal     uint8
		holes    []api.Hole
		find, by string
		want     api.Errno
	}{
		{"r", api.GExpr, nil, name, sum, api.OK}, {"r", api.GType, nil, name, name, api.OK}, {"r", api.GStmts, nil, "(49)", "(13)", api.OK}, {"", api.GExpr, nil, name, name, api.ErrRule}, {"if", api.GExpr, nil, name, name, api.ErrRule}, {"a b", api.GExpr, nil, name, name, api.ErrRule}, {"r", 0, nil, name, name, api.ErrRule}, {"r", api.GFile, nil, name, name, api.ErrRule}, {"r", 77, nil, name, name, api.ErrRule},
		{"r", api.GExpr, nil, "(99)", name, api.ErrRule}, {"r", api.GExpr, nil, name, "(28)", api.ErrRule}, {"r", api.GStmts, nil, "(49)", "(49)", api.ErrRule}, {"r", api.GExpr, nil, "(13)", "(0)", api.OK}, {"r", api.GExpr, holes(1, many...), "(99)", name, api.ErrRule},
		{"r", api.GExpr, holes(1, many[:16]...), call(many...), name, api.OK}, {"r", api.GExpr, holes(1, many...), call(many...), name, api.ErrMany}, {"r", api.GExpr, holes(api.HExprs, "a", "b"), call(many...), name, api.OK}, {"r", api.GExpr, holes(api.HExprs, "a", "b", "c"), call(many...), name, api.ErrMany}, {"r", api.GExpr, append(holes(api.HExprs, "a", "b"), holes(api.HStmts, "if")...), call(many...), name, api.ErrMany}, {"r", api.GExpr, holes(99, many...), call(many...), name, api.ErrMany},
		{"r", api.GExpr, holes(1, "x", "y"), sum, sum, api.OK}, {"r", api.GExpr, holes(1, "x", "x"), sum, sum, api.ErrHole}, {"r", api.GExpr, holes(1, "x", "z"), sum, call("z"), api.ErrHole}, {"r", api.GExpr, holes(0, "x"), sum, sum, api.ErrHole}, {"r", api.GExpr, holes(8, "x"), sum, sum, api.ErrHole}, {"r", api.GExpr, holes(1, "if"), sum, sum, api.ErrHole}, {"r", api.GExpr, holes(1, ""), sum, sum, api.ErrHole}, {"r", api.GExpr, holes(7, "x"), name, name, api.ErrHole},
		{"r", api.GExpr, holes(api.HIdent, "x"), sum, sum, api.OK}, {"r", api.GExpr, holes(api.HLit, "x"), sum, sum, api.OK}, {"r", api.GExpr, holes(api.HType, "x"), sum, sum, api.OK}, {"r", api.GExpr, holes(api.HStmt, "x"), sum, sum, api.ErrHole}, {"r", api.GExpr, holes(api.HExprs, "x"), sum, sum, api.ErrHole}, {"r", api.GExpr, holes(api.HExprs, "F"), call(), name, api.ErrHole},
		{"r", api.GExpr, holes(api.HStmt, "x"), "(50 " + name + ")", "(13 (50 " + name + "))", api.OK}, {"r", api.GStmts, holes(api.HStmt, "x"), "(50 " + name + ")", "(13 (50 (28 " + name + ")))", api.ErrHole}, {"r", api.GStmts, holes(api.HStmts, "x"), "(50 " + name + ")", "(13)", api.ErrHole}, {"r", api.GStmts, holes(api.HStmts, "x"), "(58 (13 (50 " + name + ")))", "(13 (50 " + name + "))", api.OK},
		{"r", api.GStmts, holes(api.HStmts, "x"), "(58 (13 (50 " + name + ")))", "(13 (67 (26 \"l\") (50 " + name + ")))", api.ErrHole}, {"r", api.GStmts, holes(api.HStmt, "x"), "(58 (13 (50 " + name + ")))", "(13 (67 (26 \"l\") (50 " + name + ")))", api.OK}, {"r", api.GStmts, holes(api.HStmt, "l"), "(67 (26 \"l\") (50 " + name + "))", "(13)", api.ErrHole},
		{"r", api.GExpr, holes(api.HExprs, "x"), "(11 " + name + ")", "(12 " + name + ")", api.OK}, {"r", api.GExpr, holes(api.HExprs, "x"), "(11 " + name + ")", "(10 " + name + ")", api.ErrHole}, {"r", api.GExpr, holes(api.HExprs, "x"), "(12 (38 " + name + " (0)))", "(0)", api.ErrHole}, {"r", api.GExpr, holes(api.HExprs, "x"), "(11 " + name + ")", "(11 " + name + " (28 " + name + "))", api.ErrHole}, {"r", api.GExpr, holes(api.HExpr, "x"), "(11 (28 " + name + "))", "(10 " + name + ")", api.OK},
	} {
		r := api.Rule{Name: c.name, Goal: c.goal, Holes: c.holes, Find: read(t, c.find), By: read(t, c.by)}
		if got := rule.Check(r); got != c.want {
			t.Errorf("%d: Check(%v) = %d, want %d", i, r, got, c.want)
		}
	}
	for _, r := range []api.Rule{{}, {Name: "r", Goal: api.GExpr}, {Name: "r", Goal: api.GExpr, Find: read(t, name)}, {Name: "r", Goal: api.GExpr, By: read(t, name)}, {Name: "r", Goal: api.GExpr, Find: read(t, sum)[:2], By: read(t, name)}} {
		if got := rule.Check(r); got != api.ErrRule {
			t.Errorf("Check(%v) = %d", r, got)
		}
	}
}

func TestP16_2Rules(t *testing.T) {
	l, f := rule.Read(example)
	want := api.Rule{Name: "r", Goal: api.GExpr, Holes: holes(api.HExpr, "x"), Find: read(t, `(37 "+" (26 "x") (26 "x"))`), By: read(t, `(37 "*" (27 "2") (26 "x"))`)}
	if f != (api.Fault{}) || len(l) != 1 || !same(l[0], want) {
		t.Errorf("Read = %v, %v", l, f)
	}
	s := "\n// none\n rule\ta  stmt \r\n\nhole b stmts\n  //\nhole c ident\nhole d lit\nhole e type\nhole g stmt\nhole h exprs\nfind\nif c { b; var x e = d; g; f(h) }\n with\t\nb\n\nend\r\nrule b type\nfind\n\nint // c\nwith\nstring\nend\n//\n"
	l, f = rule.Read(s)
	if f != (api.Fault{}) || len(l) != 2 || l[0].Name != "a" || l[0].Goal != api.GStmts || len(l[0].Holes) != 6 || l[1].Goal != api.GType || !slices.Equal(l[1].By, read(t, `(26 "string")`)) {
		t.Fatalf("Read = %v, %v", l, f)
	}
	if l[0].Find[0].Kind != api.KIf || l[0].By[0].Kind != api.KStmts || !slices.Equal(l[0].Holes, []api.Hole{{Name: "b", Kind: 7}, {Name: "c", Kind: 2}, {Name: "d", Kind: 3}, {Name: "e", Kind: 4}, {Name: "g", Kind: 5}, {Name: "h", Kind: 6}}) {
		t.Errorf("Read = %v", l)
	}
	for _, s := range []string{"", "\n\n", "// rule", "  //a b\n\t\r"} {
		if l, f := rule.Read(s); f != (api.Fault{}) || len(l) != 0 {
			t.Errorf("Read(%q) = %v, %v", s, l, f)
		}
	}
}

func TestP16_2Faults(t *testing.T) {
	rules := ""
	for i := range api.MaxRules {
		rules += fmt.Sprintf("rule r%d expr\nfind\na\nwith\nb\nend\n", i)
	}
	manyHoles := "rule r expr\n"
	for i := range api.MaxHoles {
		manyHoles += fmt.Sprintf("hole h%d expr\n", i)
	}
	for _, c := range []struct {
		s    string
		want api.Errno
		at   int
	}{
		{strings.TrimSuffix(example, "end\n"), api.ErrLine, 8}, {"rule r expr\nhole x expr\nfind\nx + x\nwith\n2 * x\n", api.ErrLine, 8}, {strings.Replace(example, "find", "hole y expr\nfind", 1), api.ErrHole, 8}, {strings.Replace(example, "x + x", "x +", 1), api.ErrRule, 3}, {strings.Replace(example, "2 * x", "2 *", 1), api.ErrRule, 5}, {strings.Repeat("\n", api.MaxText+1), api.ErrLong, 0},
		{"a", api.ErrLine, 1}, {"\n//\nrule", api.ErrLine, 3}, {"rule r", api.ErrLine, 1}, {"rule r file", api.ErrLine, 1}, {"rule r expr x", api.ErrLine, 1}, {"rule r Expr", api.ErrLine, 1}, {"Rule r expr", api.ErrLine, 1}, {"rule if expr", api.ErrRule, 1}, {"rule 1 expr", api.ErrRule, 1}, {"rule if exprs", api.ErrLine, 1}, {"rule r\vexpr", api.ErrLine, 1}, {"end", api.ErrLine, 1}, {"find", api.ErrLine, 1}, {"hole x expr", api.ErrLine, 1},
		{"rule r expr", api.ErrLine, 2}, {"rule r expr\n", api.ErrLine, 3}, {"rule r expr\nwith", api.ErrLine, 2}, {"rule r expr\nend", api.ErrLine, 2}, {"rule r expr\nrule s expr", api.ErrLine, 2}, {"rule r expr\nfind x", api.ErrLine, 2}, {"rule r expr\nhole x", api.ErrLine, 2}, {"rule r expr\nhole x file", api.ErrLine, 2}, {"rule r expr\nhole x expr y", api.ErrLine, 2}, {"rule r expr\nhole if expr", api.ErrHole, 2}, {"rule r expr\nhole x expr\nhole x lit", api.ErrHole, 3}, {"rule r expr\nhole if exp", api.ErrLine, 2},
		{"rule r expr\nfind", api.ErrLine, 3}, {"rule r expr\nfind\na\nwith", api.ErrLine, 5}, {"rule r expr\nfind\na\nend", api.ErrLine, 5}, {"rule r expr\nfind\nwith", api.ErrRule, 2}, {"rule r expr\nfind\na\nwith\nend", api.ErrRule, 4}, {"rule r expr\nfind\na\nwith x\nend", api.ErrLine, 6}, {"rule r expr\nfind\na\nwith\n1x\nend", api.ErrRule, 4}, {"rule r expr\n//\nfind\n)\nwith", api.ErrRule, 3},
		{"rule r stmt\nfind\nwith", api.ErrRule, 2}, {"rule r stmt\nfind\na\nb\nwith", api.ErrRule, 2}, {"rule r stmt\nfind\na\nwith\nend\nrule r stmt", api.ErrRule, 6}, {"rule r stmt\nfind\na\nwith\nend\nx", api.ErrLine, 6}, {"rule r expr\nhole x exprs\nfind\nx\nwith\nx\nend", api.ErrHole, 7}, {"rule r expr\nhole x exprs\nhole y exprs\nhole z stmts\nfind\nx\nwith\nx\nend", api.ErrMany, 9},
		{rules + "\nrule if expr", api.ErrMany, 32*6 + 2}, {rules + "rule", api.ErrLine, 32*6 + 1}, {manyHoles + "hole h0 expr", api.ErrMany, 18}, {manyHoles + "hole h0 exp", api.ErrLine, 18}, {"rule r expr\nfind\n// c\nwith", api.ErrRule, 2}, {"rule r expr\nfind\na\x00\nwith", api.ErrRule, 2},
	} {
		l, f := rule.Read(c.s)
		if want := (api.Fault{Err: c.want, At: c.at}); f != want || len(l) != 0 {
			t.Errorf("Read(%.60q) = %d rules, %v; want %v", c.s, len(l), f, want)
		}
	}
	for n, want := range map[int]api.Errno{api.MaxText: api.OK, api.MaxText + 1: api.ErrLong} {
		if l, f := rule.Read(example + strings.Repeat(" ", n-len(example))); f != (api.Fault{Err: want}) || len(l) == 1 != (want == api.OK) {
			t.Errorf("Read of %d bytes = %d rules, %v", n, len(l), f)
		}
	}
	if l, f := rule.Read(rules); f != (api.Fault{}) || len(l) != api.MaxRules {
		t.Errorf("Read of MaxRules rules = %d, %v", len(l), f)
	}
}

func TestP16_3(t *testing.T) {
	l, _ := rule.Read(example)
	if s, e := rule.Show(l); s != example || e != api.OK {
		t.Errorf("Show = %q, %d", s, e)
	}
	if s, e := rule.Show(nil); s != "" || e != api.OK {
		t.Errorf("Show of none = %q, %d", s, e)
	}
	file := "rule r stmt\nhole b stmts\nhole g stmt\nhole e type\nhole h exprs\nhole c ident\nhole d lit\nfind\nif c {\nb\ng\nf(h, e, d)\n}\nwith\nb\nend\nrule s type\nfind\nint\nwith\nstring\nend\nrule t stmt\nfind\nreturn\nwith\nend\n"
	l, f := rule.Read(file)
	if s, e := rule.Show(l); f != (api.Fault{}) || s != file || e != api.OK {
		t.Errorf("Show = %q, %d", s, e)
	}
	a, b := read(t, `(26 "a")`), read(t, `(26 "b")`)
	r := func(name string, find, by []api.Part) api.Rule {
		return api.Rule{Name: name, Goal: api.GExpr, Find: find, By: by}
	}
	torn := read(t, `(37 "*" (37 "+" (26 "a") (26 "b")) (26 "c"))`)
	long := []api.Part{{Kind: api.KName, Word: strings.Repeat("a", 40000)}}
	raw := func(s string) []api.Part { return []api.Part{{Kind: api.KLit, Word: "`" + s + "`"}} }
	for i, c := range []struct {
		l    []api.Rule
		want api.Errno
	}{
		{[]api.Rule{r("a", a, b), r("b", b, a)}, api.OK}, {[]api.Rule{r("a", a, b), r("a", b, a)}, api.ErrRule}, {[]api.Rule{r("a", torn, b)}, api.ErrFit}, {[]api.Rule{r("a", a, torn)}, api.ErrFit}, {[]api.Rule{r("a", a, torn), r("if", a, a)}, api.ErrFit}, {[]api.Rule{r("if", torn, a)}, api.ErrRule}, {[]api.Rule{r("a", a, b), r("a", torn, a)}, api.ErrRule},
		{slices.Repeat([]api.Rule{r("if", a, b)}, 33), api.ErrMany}, {slices.Repeat([]api.Rule{r("a", a, b)}, 32), api.ErrRule}, {[]api.Rule{r("a", long, a), r("b", long, a)}, api.ErrLong}, {[]api.Rule{r("a", long, a), r("b", long, a), r("b", a, a)}, api.ErrRule}, {[]api.Rule{r("a", long, a), r("b", long, a), r("c", torn, a)}, api.ErrFit}, {[]api.Rule{r("a", long, a)}, api.OK},
		{[]api.Rule{r("a", read(t, `(26 "with")`), a)}, api.ErrFit}, {[]api.Rule{r("a", read(t, `(26 "end")`), read(t, `(26 "with")`))}, api.OK}, {[]api.Rule{r("a", a, read(t, `(26 "end")`))}, api.ErrFit}, {[]api.Rule{r("a", raw("\n\twith \r\n"), a)}, api.ErrFit}, {[]api.Rule{r("a", raw("\nwith a\n"), a)}, api.OK}, {[]api.Rule{r("a", a, raw("\nend\n"))}, api.ErrFit}, {[]api.Rule{r("a", raw("\nend\n"), raw("\nwith\n"))}, api.OK},
		{[]api.Rule{{Name: "a", Goal: api.GExpr, Find: read(t, "(49)"), By: a}}, api.ErrFit}, {[]api.Rule{{Name: "a", Goal: api.GStmts, Find: read(t, "(49)"), By: read(t, "(13)")}}, api.OK}, {[]api.Rule{{Name: "a", Goal: api.GStmts, Find: a, By: read(t, "(13)")}}, api.ErrFit}, {[]api.Rule{{Name: "a", Goal: api.GExpr, Holes: holes(2, "z"), Find: a, By: a}}, api.ErrHole},
	} {
		s, e := rule.Show(c.l)
		if e != c.want || e != api.OK && s != "" {
			t.Errorf("%d: Show = %.60q, %d; want %d", i, s, e, c.want)
			continue
		}
		back, f := rule.Read(s)
		if e == api.OK && (f != (api.Fault{}) || !slices.EqualFunc(back, c.l, same)) {
			t.Errorf("%d: Read of Show = %v, %v", i, back, f)
		}
	}
}

// TestP16_3Long: a file may have MaxText bytes, and no more.
func TestP16_3Long(t *testing.T) {
	const frame = len("rule a expr\nfind\n\nwith\nb\nend\n")
	for n, want := range map[int]api.Errno{api.MaxText - frame: api.OK, api.MaxText - frame + 1: api.ErrLong} {
		find := []api.Part{{Kind: api.KName, Word: strings.Repeat("a", n)}}
		s, e := rule.Show([]api.Rule{{Name: "a", Goal: api.GExpr, Find: find, By: read(t, `(26 "b")`)}})
		if e != want || (e == api.OK) != (len(s) == api.MaxText) {
			t.Errorf("Show with %d bytes = %d bytes, %d", n, len(s), e)
		}
	}
}

// TestP16_4: rules of many texts, there and back; and silent lines.
func TestP16_4(t *testing.T) {
	d := trials.New(16)
	shown := 0
	for i := 0; i < 3000; i++ {
		goal := uint8(1 + i%3)
		find, by := trials.Text(goal, d, 2), trials.Text(goal, d, 2)
		if goal == api.GStmts {
			find = "{ " + find + "}"
		}
		file := fmt.Sprintf("rule r%d %s\nhole %s %s\n// c\nfind\n%s\nwith\n%s\nend\n", i, []string{"type", "expr", "stmt"}[i%3], []string{"a", "x", "T"}[d.Roll(3)], []string{"expr", "ident", "exprs"}[d.Roll(3)], find, by)
		l, f := rule.Read(file)
		if f != (api.Fault{}) {
			continue
		}
		if rule.Check(l[0]) != api.OK {
			t.Fatalf("Read(%q) is a rule that may not be", file)
		}
		if want, _ := syntax.Term(goal, by); !slices.Equal(l[0].By, want) {
			t.Fatalf("Read(%q): By is %v", file, l[0].By)
		}
		s, e := rule.Show(l)
		if e != api.OK {
			continue
		}
		shown++
		back, f := rule.Read(s)
		if f != (api.Fault{}) || !slices.EqualFunc(back, l, same) {
			t.Fatalf("Read(Show(%q)) = %v, %v", file, back, f)
		}
		loud := strings.ReplaceAll("\n"+s, "\nhole", "\n\n// c\n \t\nhole")
		loud = strings.ReplaceAll(loud, "\nfind", "\n// find\nfind") + "// end"
		if back, f := rule.Read(loud); f != (api.Fault{}) || !slices.EqualFunc(back, l, same) {
			t.Fatalf("Read(%q) = %v, %v", loud, back, f)
		}
	}
	if shown < 500 {
		t.Errorf("only %d rules", shown)
	}
}

// TestR3: what is handed in stays; answers are new.
func TestR3(t *testing.T) {
	l, _ := rule.Read(example)
	l[0].Holes[0].Name, l[0].Find[0].Kind = "y", 0
	m, _ := rule.Read(example)
	if m[0].Holes[0].Name != "x" || m[0].Find[0].Kind != api.KBinary {
		t.Error("an answer is kept")
	}
	find := append(read(t, "(49)"), api.Part{Kind: 99})
	r := api.Rule{Name: "a", Goal: api.GStmts, Find: find[:1], By: read(t, "(13)")}
	if _, e := rule.Show([]api.Rule{r}); e != api.OK || find[1].Kind != 99 || find[0].Kind != api.KEmpty {
		t.Error("a list that was handed in was changed")
	}
}
