package report_test

import (
	"fmt"
	"strings"
	"testing"

	"emend/api"
	"emend/find"
	"emend/lines"
	"emend/quoted"
	"emend/report"
	"emend/rule"
	"emend/shape"
	"emend/span"
	"emend/syntax"
	"emend/trials"
)

// rules are rules told in short.
func rules(t *testing.T, short ...string) []api.Rule {
	t.Helper()
	l, f := rule.Read(trials.Rules(short...))
	if f != (api.Fault{}) {
		t.Fatalf("rules %q: %v", short, f)
	}
	return l
}

func TestP23_1(t *testing.T) {
	for _, c := range []struct {
		goal          uint8
		rule, s, want string
	}{
		{api.GExpr, "expr|x expr,y expr|x + y", "f(a + b)", "1:3-1:8 r0 x=\"a\" y=\"b\"\n"}, {api.GExpr, "expr||a", "a +\n a", "1:1-1:2 r0\n2:2-2:3 r0\n"}, {api.GExpr, "expr|xs exprs|f(xs)", "f()", "1:1-1:4 r0 xs=\"\"\n"}, {api.GExpr, "expr|xs exprs|f(xs)", "f(a, /*\n*/ b /**/,)", "1:1-2:12 r0 xs=\"a, /*\\n*/ b\"\n"}, {api.GExpr, "expr|x expr|x.f", "é.f", "1:1-1:5 r0 x=\"\\xc3\\xa9\"\n"}, {api.GStmts, "stmt|ss stmts|{ss}", "{a; ; b // c\n}", "1:1-2:2 r0 ss=\"a; ; b\"\n"}, {api.GStmts, "stmt|ss stmts|{ss}", "{; ;}", "1:1-1:6 r0 ss=\"\"\n"}, {api.GStmts, "stmt|ss stmts|{ss}", "{; a; }", "1:1-1:8 r0 ss=\"a\"\n"},
		{api.GStmts, "stmt|s stmt|s", "a\n;", "1:1-1:2 r0 s=\"a\"\n2:1-2:1 r0 s=\"\"\n"}, {api.GStmts, "stmt||;", "x; ;", "1:4-1:4 r0\n"}, {api.GStmts, "stmt||;", "l:", "1:3-1:3 r0\n"}, {api.GExpr, "expr||a", "b", ""}, {api.GStmts, "stmt||return", "if x { return\n}", "1:8-1:14 r0\n"},
	} {
		got, f := report.Matches(c.goal, c.s, rules(t, c.rule))
		if got != c.want || f != (api.Fault{}) {
			t.Errorf("Matches(%q, %q) = %q, %v; want %q", c.s, c.rule, got, f, c.want)
		}
	}
	// A bind that begins at the text's beginning, and is of several trees.
	all := api.Rule{Name: "all", Goal: api.GStmts, Holes: []api.Hole{{Name: "ss", Kind: api.HStmts}}, Find: []api.Part{{Kind: api.KStmts, Kids: 1}, {Kind: api.KExprStmt, Kids: 1}, {Kind: api.KName, Word: "ss"}}, By: []api.Part{{Kind: api.KStmts}}}
	if got, f := report.Matches(api.GStmts, "a; ; b; {;}; ;", []api.Rule{all}); f != (api.Fault{}) || !strings.HasPrefix(got, "1:1-1:13 all ss=\"a; ; b; {;}\"\n") {
		t.Errorf("Matches of all statements = %q, %v", got, f)
	}
	r := rules(t, "expr||a")
	for i, c := range []struct {
		goal  uint8
		s     string
		rules []api.Rule
		want  api.Fault
	}{
		{api.GExpr, "a b", make([]api.Rule, 33), api.Fault{Err: api.ErrSyntax, At: 2}}, {0, "a", r, api.Fault{Err: api.ErrArg}}, {api.GExpr, "a", make([]api.Rule, 33), api.Fault{Err: api.ErrMany}}, {api.GExpr, "a", append(r, api.Rule{}), api.Fault{Err: api.ErrRule}}, {api.GExpr, "\xff", r, api.Fault{Err: api.ErrChar}},
	} {
		if got, f := report.Matches(c.goal, c.s, c.rules); got != "" || f != c.want {
			t.Errorf("%d: Matches = %q, %v", i, got, f)
		}
	}
}

func ed(from, to int, text string) api.Edit { return api.Edit{From: from, To: to, Text: text} }

func TestP23_2(t *testing.T) {
	for _, c := range []struct {
		s    string
		l    []api.Edit
		want string
	}{
		{"a\nb", []api.Edit{ed(2, 3, "c\n")}, "2:1-2:2 \"b\" \"c\\n\"\n"}, {"ab", nil, ""}, {"", []api.Edit{ed(0, 0, "é")}, "1:1-1:1 \"\" \"\\xc3\\xa9\"\n"}, {"a\nb\n", []api.Edit{ed(0, 2, ""), ed(2, 2, "\""), ed(4, 4, "x")}, "1:1-2:1 \"a\\n\" \"\"\n2:1-2:1 \"\" \"\\\"\"\n3:1-3:1 \"\" \"x\"\n"},
	} {
		if got, e := report.Edits(c.s, c.l); got != c.want || e != api.OK {
			t.Errorf("Edits(%q, %v) = %q, %d; want %q", c.s, c.l, got, e, c.want)
		}
	}
	long := strings.Repeat("a", api.MaxText)
	for i, c := range []struct {
		s    string
		l    []api.Edit
		want api.Errno
	}{{"ab", []api.Edit{ed(1, 0, "")}, api.ErrCross}, {"ab", []api.Edit{ed(0, 3, "")}, api.ErrCross}, {long + "a", []api.Edit{ed(1, 0, "")}, api.ErrLong}, {long, []api.Edit{ed(0, 0, "x")}, api.ErrLong}} {
		if got, e := report.Edits(c.s, c.l); got != "" || e != c.want {
			t.Errorf("%d: Edits = %q, %d", i, got, e)
		}
	}
}

func TestP23_3(t *testing.T) {
	for _, c := range []struct {
		goal    uint8
		s, want string
	}{
		{api.GStmts, "x", "1:1-1:2 11\n"}, {api.GStmts, "f()", ""}, {api.GStmts, "f()\na.b := 1, 2", "2:1-2:12 6\n2:1-2:12 7\n"}, {api.GType, "func(a.b,\nc int)", "1:6-1:9 3\n"}, {api.GStmts, "switch {\ndefault:\ndefault:\n}", "3:1-3:9 8\n"},
	} {
		if got, f := report.Flaws(c.goal, c.s); got != c.want || f != (api.Fault{}) {
			t.Errorf("Flaws(%q) = %q, %v; want %q", c.s, got, f, c.want)
		}
	}
	for s, want := range map[string]api.Fault{"a b": {Err: api.ErrSyntax, At: 2}, "(": {Err: api.ErrNest}} {
		if got, f := report.Flaws(api.GExpr, s); got != "" || f != want {
			t.Errorf("Flaws(%q) = %q, %v", s, got, f)
		}
	}
}

// bytes are where the parts from one on up to another have bytes; false, if none has any.
func bytes(s string, p api.Parsed, from, to int) (int, int, bool) {
	first, last := -1, -1
	for _, n := range p.Nodes[from:to] {
		if n.From == n.To || p.Tokens[n.From].From == p.Tokens[n.To-1].To {
			continue
		}
		if a := p.Tokens[n.From].From; first < 0 || a < first {
			first = a
		}
		last = max(last, p.Tokens[n.To-1].To)
	}
	return first, last, first >= 0
}

// part is the piece of a part.
func part(s string, p api.Parsed, i int) string {
	from, to, ok := bytes(s, p, i, i+1)
	if !ok {
		if from = len(s); p.Nodes[i].From < len(p.Tokens) {
			from = p.Tokens[p.Nodes[i].From].From
		}
		to = from
	}
	a, _ := lines.At(s, from)
	b, _ := lines.At(s, to)
	return fmt.Sprintf("%d:%d-%d:%d", a.Line, a.Col, b.Line, b.Col)
}

// TestP23_4: lines of many texts, held against what is found and what flaws there are.
func TestP23_4(t *testing.T) {
	d := trials.New(23)
	all := rules(t, "expr|x expr,y expr|x + y", "expr|xs exprs|f(xs)", "stmt|ss stmts|{ss}", "stmt|s stmt|s", "expr|x ident|x", "type|t type|[]t", "stmt||;", "expr|x expr|-x")
	for i := 0; i < 1200; i++ {
		goal := uint8(1 + i%4)
		s := trials.Text(goal, d, 3)
		if d.Roll(2) == 0 {
			s = strings.ReplaceAll(s, ", ", ",\n\t")
		}
		p, f := syntax.Parse(goal, s)
		if f != (api.Fault{}) {
			t.Fatalf("Parse(%q) = %v", s, f)
		}
		l, _ := syntax.Term(goal, s)
		found, _ := find.All(all, l)
		want := ""
		for _, m := range found {
			want += part(s, p, m.Part) + " " + all[m.Rule].Name
			for _, b := range m.Binds {
				from, to, ok := bytes(s, p, b.From, b.To)
				if !ok {
					from, to = 0, 0
				}
				want += " " + b.Name + "=" + quoted.Quote(s[from:to])
			}
			want += "\n"
		}
		if got, f := report.Matches(goal, s, all); f != (api.Fault{}) || got != want {
			t.Fatalf("Matches(%q) = %q, want %q", s, got, want)
		}
		flaws, _ := shape.Text(goal, s)
		want = ""
		for _, x := range flaws {
			want += fmt.Sprintf("%s %d\n", part(s, p, x.Part), x.Rule)
		}
		if got, f := report.Flaws(goal, s); f != (api.Fault{}) || got != want {
			t.Fatalf("Flaws(%q) = %q, want %q", s, got, want)
		}
		edit := []api.Edit{span.Diff(s, trials.Text(goal, d, 2))}
		got, e := report.Edits(s, edit)
		if e != api.OK || strings.Count(got, "\n") != 1 || strings.ContainsFunc(got[:len(got)-1], func(r rune) bool { return r < 0x20 || r > 0x7E }) {
			t.Fatalf("Edits(%q, %v) = %q, %d", s, edit, got, e)
		}
	}
}

// TestR1: many lines are told soon.
func TestR1(t *testing.T) {
	s := strings.Repeat("a\n", 20000)
	if got, f := report.Matches(api.GStmts, s, rules(t, "expr||a")); f != (api.Fault{}) || strings.Count(got, "\n") != 20000 || !strings.HasSuffix(got, "20000:1-20000:2 r0\n") {
		t.Errorf("Matches: %v", f)
	}
	if got, f := report.Flaws(api.GStmts, s); f != (api.Fault{}) || strings.Count(got, "\n") != 20000 {
		t.Errorf("Flaws: %v", f)
	}
}
