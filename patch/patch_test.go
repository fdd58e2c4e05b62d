package patch_test

import (
	"slices"
	"strings"
	"testing"

	"emend/api"
	"emend/fill"
	"emend/find"
	"emend/patch"
	"emend/pick"
	"emend/render"
	"emend/rule"
	"emend/scan"
	"emend/span"
	"emend/syntax"
	"emend/term"
	"emend/trials"
)

// rules are rules told in short.
func rules(t *testing.T, short ...string) []api.Rule {
	t.Helper()
	l, f := rule.Read(trials.Rules(short...))
	if f != (api.Fault{}) {
		t.Fatalf("rules %q: %v", short, f)
	}
	return l
}

func ed(from, to int, text string) api.Edit { return api.Edit{From: from, To: to, Text: text} }

func sameMatch(a, b api.Match) bool {
	return a.Rule == b.Rule && a.Part == b.Part && slices.Equal(a.Binds, b.Binds)
}

func same(a, b api.Round) bool {
	return a.Text == b.Text && a.Bad == b.Bad && slices.Equal(a.Edits, b.Edits) && slices.EqualFunc(a.Picks, b.Picks, sameMatch)
}

func TestP21_1Texts(t *testing.T) {
	const xy = "x expr,y expr|"
	for _, c := range []struct {
		goal     uint8
		rule, s  string
		want     string
		bad      int
		edits    []api.Edit
		anyEdits bool
	}{
		{api.GExpr, "expr|" + xy + "x + y|y + x", "f(a /* one */ + b)*c", "f(b + a)*c", -1, []api.Edit{ed(2, 17, "b + a")}, false}, {api.GExpr, "expr|" + xy + "x * y|x + y", "-(a*b)", "-(a + b)", -1, []api.Edit{ed(2, 5, "a + b")}, false}, {api.GExpr, "expr|" + xy + "x * y|x + y", "a*b*c", "a*b + c", -1, []api.Edit{ed(0, 5, "a*b + c")}, false},
		{api.GExpr, "expr||x|-y", "-x", "- -y", -1, []api.Edit{ed(1, 2, " -y")}, false}, {api.GStmts, "expr||a|b.c", "a := 1", "b.c := 1", -1, []api.Edit{ed(0, 1, "b.c")}, false}, {api.GStmts, "expr||a|b.c", "goto a", "goto a", 0, nil, false}, {api.GExpr, "expr||x|1", "x.y", "1 .y", -1, []api.Edit{ed(0, 1, "1 ")}, false}, {api.GExpr, "expr||x|1.5", "x.y", "1.5 .y", -1, nil, true}, {api.GExpr, "expr||x|2i", "x.y", "2i .y", -1, nil, true}, {api.GExpr, "expr||x|'c'", "x.y", "'c'.y", -1, nil, true}, {api.GExpr, "expr||x|1", "x+y", "1+y", -1, nil, true}, {api.GExpr, "expr||x|(1)", "x.y", "(1).y", -1, nil, true},
		{api.GExpr, "expr||x|-y", "a-x", "a- -y", -1, nil, true}, {api.GExpr, "expr||x|-y", "a*x", "a* -y", -1, nil, true}, {api.GExpr, "expr||x|-y", "a[x:x]", "a[-y: -y]", -1, nil, true}, {api.GExpr, "expr||x|y", "a*x", "a*y", -1, nil, true}, {api.GStmts, "expr||x|y", "return x", "return y", -1, nil, true}, {api.GStmts, "expr||`x`|y", "return`x`", "return y", -1, []api.Edit{ed(6, 9, " y")}, false}, {api.GStmts, "expr||`x`|y", "for range`x`{}", "for range y{}", -1, nil, true}, {api.GStmts, "expr||(x)|y", "if(x){}else if(z){}", "if y{}else if(z){}", -1, nil, true},
		{api.GStmts, "expr||x|<-y", "a = x", "a = <-y", -1, nil, true}, {api.GStmts, "expr||x|<-y", "a=x", "a= <-y", -1, nil, true}, {api.GStmts, "expr||x|é", "goto x", "goto é", -1, nil, true}, {api.GStmts, "expr||(x)|é", "return(x)", "return é", -1, nil, true}, {api.GStmts, "expr||x|y", "\ufeffx=1", "\ufeffy=1", -1, []api.Edit{ed(3, 4, "y")}, false}, {api.GStmts, "expr||a|*b", "a*=1", "*b*=1", -1, nil, true}, {api.GType, "type||a|b", "[]a", "[]b", -1, nil, true},
		{api.GStmts, "stmt|c expr,b stmts|if c { b }|for c { b }", "if c {\n\ta // one\n\tb }", "for c {\na\nb\n}", -1, nil, true}, {api.GStmts, "stmt|c expr,b stmts|if c { b }|for c { b }", "if c { { a // one\n/* two */ } }", "for c {\n{ a // one\n/* two */ }\n}", -1, nil, true}, {api.GExpr, "expr|xs exprs,y expr|f(xs, y)|f(y, xs)", "f(a, b, c)", "f(c, a, b)", -1, nil, true}, {api.GExpr, "expr|x expr|x + x|2 * x", "a() + a()", "2 * a()", -1, nil, true}, {api.GExpr, "expr|x expr|x + x|2 * x", "a() + b()", "a() + b()", -1, nil, false},
		{api.GStmts, "stmt||a|b; c", "a", "b\nc", -1, []api.Edit{ed(0, 1, "b\nc")}, false}, {api.GStmts, "stmt||a|b; c", "x: a", "x: a", 0, nil, false}, {api.GStmts, "stmt||a|", "b; a; c", "b; a; c", 0, nil, false}, {api.GStmts, "stmt||a|", "{a}", "{}", -1, []api.Edit{ed(1, 2, "")}, false}, {api.GStmts, "stmt||a|b", "a; a; x: a; a", "b; b; x: b; b", -1, nil, true}, {api.GStmts, "expr||a|b.c", "a; a; goto a; a", "a; a; goto a; a", 2, nil, false}, {api.GExpr, "expr|" + xy + "x * y|x + y", "(a*b).c", "(a + b).c", -1, nil, true}, {api.GExpr, "expr||a|b + c", "a.d * -a", "(b + c).d * -(b + c)", -1, nil, true},
		{api.GStmts, "expr||a|b + c", "switch a.(type) {}", "switch (b + c).(type) {}", -1, nil, true}, {api.GStmts, "expr||a|T{}", "if a {}", "if a {}", 0, nil, false}, {api.GStmts, "expr||a|T{}", "if (a) {}; f(a)", "if (T{}) {}; f(T{})", -1, nil, true}, {api.GStmts, "stmt|s stmt|x: s|s", "x: ;", "x: ;", 0, nil, false}, {api.GStmts, "stmt|s stmt|x: s|s", "x: y;", "y;", -1, nil, true}, {api.GStmts, "stmt||;|a", "", "", -1, nil, false},
	} {
		got, f := patch.Round(c.goal, c.s, rules(t, c.rule))
		if f != (api.Fault{}) || got.Text != c.want || got.Bad != c.bad || !c.anyEdits && !slices.Equal(got.Edits, c.edits) {
			t.Errorf("%q over %q: %q, Bad %d, %v, %v; want %q, Bad %d, %v", c.rule, c.s, got.Text, got.Bad, got.Edits, f, c.want, c.bad, c.edits)
		}
	}
}

// TestP21_1Apart: bytes that would grow together, and such as would not.
func TestP21_1Apart(t *testing.T) {
	for _, name := range []string{"a", "z", "A", "Z", "_", "m", "é", "\u00c0", "\u4e00"} {
		for _, end := range []string{"", "a", "z", "A", "Z", "0", "9", "_", "\u00c0", "\u00ff"} {
			s := "func(" + name + end + "(b))"
			got, f := patch.Round(api.GType, s, rules(t, "type||(b)|"+name+"c"))
			if want := "func(" + name + end + " " + name + "c)"; f != (api.Fault{}) || got.Text != want {
				t.Errorf("%q became %q, want %q", s, got.Text, want)
			}
		}
	}
	for _, op := range strings.Fields("+ - * / % & | ^ << >> < > == != <= >= && || &^") {
		for _, sign := range []string{"+", "-", "^", "&", "*", "<-", "!"} {
			got, f := patch.Round(api.GExpr, "a"+op+"x", rules(t, "expr||x|"+sign+"y"))
			if want := "a" + op + " " + sign + "y"; f != (api.Fault{}) || got.Text != want {
				t.Errorf("a%sx became %q, want %q", op, got.Text, want)
			}
		}
	}
	for _, c := range [][3]string{
		{"expr||x|-y", "a[:x]", "a[: -y]"}, {"expr||x|-y", "a[x:]", "a[-y:]"}, {"expr||x|-y", "a[x]", "a[-y]"}, {"expr||x|-y", "f(x,x)", "f(-y,-y)"}, {"expr||x|-y", "!x", "! -y"}, {"expr||x|-y", "T{a:x}", "T{a: -y}"}, {"expr||x|-y", "\ufeffx", "\ufeff-y"}, {"expr||x|-y", "\ufeff-x", "\ufeff- -y"}, {"expr||(x)|y", "\ufeff(x)", "\ufeffy"}, {"type||b|*c", "interface{~b}", "interface{~ *c}"}, {"type||b|*c", "chan<-b", "chan<- *c"}, {"expr|x expr|x|f(x)", "a /* c */ + b", "f(a /* c */ + b)"},
		{"expr||x|1", "x", "1"}, {"expr||x|y + 1", "x . z", "(y + 1) . z"}, {"expr||x|0x1f", "x.z", "0x1f .z"}, {"expr||x|1", "x/*c*/.z", "1/*c*/.z"}, {"expr||x|y", "x.z", "y.z"}, {"expr||x|\"s\"", "x.z", "\"s\".z"}, {"expr||x|[]T{}", "a<x", "a<[]T{}"},
	} {
		goal := map[string]uint8{"e": api.GExpr, "t": api.GType}[c[0][:1]]
		if got, f := patch.Round(goal, c[1], rules(t, c[0])); f != (api.Fault{}) || got.Text != c[2] {
			t.Errorf("%q over %q: %q, %v; want %q", c[0], c[1], got.Text, f, c[2])
		}
	}
}

// TestP21_1Long: a list that is too long fails a round only where a pick could be made in it.
func TestP21_1Long(t *testing.T) {
	r := rules(t, "stmt||x()|y(); z()")
	for n, long := range map[int]bool{20000: false, 27000: true} {
		s := "package p;const(" + strings.Repeat("a;", n) + ");func f(){l: x()"
		one, f := patch.Round(api.GFile, s+"}", r)
		if f != (api.Fault{}) || one.Bad != 0 || one.Text != s+"}" {
			t.Errorf("%d names: %v, Bad %d", n, f, one.Bad)
		}
		two, f := patch.Round(api.GFile, s+"; x()}", r)
		if long != (f == (api.Fault{Err: api.ErrLong})) || !long && two.Bad != 0 {
			t.Errorf("%d names, two picks: %v, Bad %d", n, f, two.Bad)
		}
	}
}

func TestP21_1Faults(t *testing.T) {
	r := rules(t, "expr||a|b")
	long := strings.Repeat("a", api.MaxText)
	grow := rules(t, "expr||a|bb")
	huge := rules(t, "expr|xs exprs|f(xs)|f("+strings.Repeat("xs,", 10)+")")
	consts := "package p;const(" + strings.Repeat("a;", 27000) + ")"
	for i, c := range []struct {
		goal  uint8
		s     string
		rules []api.Rule
		want  api.Fault
	}{
		{9, "a", nil, api.Fault{Err: api.ErrArg}}, {api.GExpr, "a b", slices.Repeat(r, 33), api.Fault{Err: api.ErrSyntax, At: 2}}, {api.GExpr, "a )", r, api.Fault{Err: api.ErrNest, At: 2}}, {api.GExpr, long + "a", r, api.Fault{Err: api.ErrLong}}, {api.GExpr, "a", slices.Repeat(r, 33), api.Fault{Err: api.ErrMany}}, {api.GExpr, "a", []api.Rule{r[0], {}}, api.Fault{Err: api.ErrRule}},
		{api.GExpr, strings.Repeat("a+", 32767) + "a", grow, api.Fault{Err: api.ErrLong}}, {api.GExpr, "f(" + strings.Repeat("c,", 15000) + ")", huge, api.Fault{Err: api.ErrLong}}, {api.GExpr, "f(" + strings.Repeat("c,", 1500) + ")", huge, api.Fault{}}, {api.GFile, consts, nil, api.Fault{Err: api.ErrLong}}, {api.GExpr, "f(" + long[:8000] + ")", huge, api.Fault{Err: api.ErrLong}},
	} {
		got, f := patch.Round(c.goal, c.s, c.rules)
		some, f2 := patch.Some(c.goal, c.s, c.rules, 1<<40)
		if f != c.want || f2 != c.want || f.Err != api.OK && !same(got, api.Round{}) || !same(some, got) {
			t.Errorf("%d: Round: %v, %v; want %v", i, f, f2, c.want)
		}
	}
	for _, n := range []int{-1, -1 << 63} {
		if got, f := patch.Some(api.GExpr, "a b", nil, n); f != (api.Fault{Err: api.ErrArg}) || !same(got, api.Round{}) {
			t.Errorf("Some of %d: %v", n, f)
		}
	}
	if got, f := patch.Some(api.GExpr, "a + a + a", r, 2); f != (api.Fault{}) || got.Text != "b + b + a" || len(got.Picks) != 2 || len(got.Edits) != 2 || got.Bad != -1 {
		t.Errorf("Some of 2: %v, %v", got, f)
	}
	if got, f := patch.Some(api.GExpr, "a + a", r, 0); f != (api.Fault{}) || got.Text != "a + a" || len(got.Picks)+len(got.Edits) != 0 || got.Bad != -1 {
		t.Errorf("Some of 0: %v, %v", got, f)
	}
}

// text is what was read, with its bytes.
type text struct {
	s string
	p api.Parsed
}

// bytes are where a part's bytes stand, as the document tells it.
func (x text) bytes(part int) (int, int) {
	n := x.p.Nodes[part]
	if n.From < n.To {
		return x.p.Tokens[n.From].From, x.p.Tokens[n.To-1].To
	}
	if n.From == len(x.p.Tokens) {
		return len(x.s), len(x.s)
	}
	return x.p.Tokens[n.From].From, x.p.Tokens[n.From].From
}

func sort(c byte) int {
	switch {
	case c == '_' || c >= 0x80 || strings.ContainsRune("abcdefghijklmnopqrstuvwxyzABCDEFGHIJKLMNOPQRSTUVWXYZ0123456789", rune(c)):
		return 1
	case strings.ContainsRune("+-*/%&|^<>=!:~", rune(c)):
		return 2
	}
	return 0
}

// edit is the edit of a pick, word by word as the document tells it.
func (x text) edit(rules []api.Rule, l []api.Part, m api.Match) (api.Edit, api.Errno) {
	parts, from, e := fill.Step(rules, l, []api.Match{m})
	if e != api.OK {
		return api.Edit{}, e
	}
	made, _, _ := fill.Fill(rules[m.Rule], l, m.Binds)
	trees := 0
	for at := 0; at < len(made); trees++ {
		at = end(made, at)
	}
	var texts []string
	for at := m.Part; trees > 0; trees-- {
		to := term.End(parts, at)
		raw := make([]string, to-at)
		for i := range raw {
			if n := from[at+i]; n >= 0 {
				a, b := x.bytes(n)
				raw[i] = x.s[a:b]
			}
		}
		s, e := render.Mixed(parts[at:to], raw)
		if e != api.OK {
			return api.Edit{}, e
		}
		texts, at = append(texts, s), to
	}
	a, b := x.bytes(m.Part)
	s := strings.Join(texts, "\n")
	out := s
	if s != "" && a > 0 && !(a == 3 && strings.HasPrefix(x.s, "\ufeff")) && sort(s[0]) > 0 && sort(s[0]) == sort(x.s[a-1]) {
		out = " " + out
	}
	if s != "" && b < len(x.s) {
		var last uint8 // of a text that can't be cut there is no last lexeme
		if lex, f := scan.All(s); f == (api.Fault{}) {
			last = lex[len(lex)-1].Kind
		}
		if c := sort(s[len(s)-1]); c > 0 && c == sort(x.s[b]) || x.s[b] == '.' && (last == api.TInt || last == api.TFloat || last == api.TImag) {
			out += " "
		}
	}
	return ed(a, b, out), api.OK
}

// end is the number behind the tree at a place of trees in a row.
func end(l []api.Part, at int) int {
	for open := 1; open > 0; at++ {
		open += l[at].Kids - 1
	}
	return at
}

// first tells whether the first picks can be made, and the text.
func first(goal uint8, x text, rules []api.Rule, l []api.Part, picks []api.Match) (string, []api.Edit, bool) {
	want, _, e := fill.Step(rules, l, picks)
	if e != api.OK {
		return "", nil, false
	}
	var edits []api.Edit
	for _, m := range picks {
		y, e := x.edit(rules, l, m)
		if e != api.OK {
			return "", nil, false
		}
		edits = append(edits, y)
	}
	s, e := span.Apply(x.s, edits)
	got, f := syntax.Term(goal, s)
	return s, edits, e == api.OK && f == (api.Fault{}) && term.Same(got, want)
}

// round is the document's round (of texts that are nowhere too long).
func round(goal uint8, s string, rules []api.Rule, n int) api.Round {
	p, _ := syntax.Parse(goal, s)
	l, _ := syntax.Term(goal, s)
	x := text{s, p}
	matches, _ := find.All(rules, l)
	picks, _ := pick.Pick(l, matches)
	picks = picks[:min(n, len(picks))]
	if out, edits, ok := first(goal, x, rules, l, picks); ok {
		return api.Round{Text: out, Picks: picks, Edits: edits, Bad: -1}
	}
	bad := 0
	for {
		if _, _, ok := first(goal, x, rules, l, picks[:bad+1]); !ok {
			return api.Round{Text: s, Picks: picks, Bad: bad}
		}
		bad++
	}
}

var ruleTexts = []string{
	"expr|x expr,y expr|x + y|y * x", "expr|x expr,y expr|x * y|x + y + x", "expr||a|-(b)", "expr|xs exprs,ys exprs|f(xs, a, ys)|g(ys)(xs, xs)", "stmt|ss stmts|{ss}|ss; {ss; f()}", "stmt|s stmt|b: s|s", "stmt|ss stmts,c expr|if c {ss}|if c {ss; ss}", "type|t type|[]t|map[t]t", "expr|x lit|x|1.5", "expr|x expr|-x|x", "expr|x expr|x.f|*x", "stmt|x expr|x|", "stmt|x expr|return x|x; return", "expr||x|b.c", "expr||y|3", "stmt|c expr,ss stmts|for c {ss}|for c {ss; ;}", "expr|x expr|x()|func() {x()}", "expr|x expr|(x)|x", "expr||b|T{}",
}

// TestP21_1All, P21.2 and P21.3 (and P7): rounds over many texts, held against the document's words.
func TestP21_1All(t *testing.T) {
	d := trials.New(21)
	all := rules(t, ruleTexts...)
	made, refused := 0, 0
	for i := 0; i < 6000; i++ {
		goal := uint8(1 + i%4)
		s := trials.Text(goal, d, 3)
		switch d.Roll(4) {
		case 0:
			s = tight(goal, s)
		case 1:
			s = "\ufeff" + s
		case 2:
			s = strings.ReplaceAll(s, " ", " /* c */ ") + "// d"
		}
		some := all[d.Roll(len(all)):]
		some = some[:min(len(some), 1+d.Roll(3))]
		n := d.Roll(4)
		if n == 3 {
			n = 1 << 30
		}
		want := round(goal, s, some, n)
		got, f := patch.Some(goal, s, some, n)
		if f != (api.Fault{}) || !same(got, want) {
			t.Fatalf("Some(%d, %q, %v, %d) = %+v, %v; want %+v", goal, s, some, n, got, f, want)
		}
		if n == 1<<30 {
			if whole, f := patch.Round(goal, s, some); f != (api.Fault{}) || !same(whole, want) {
				t.Fatalf("Round(%d, %q, %v) = %+v, %v; want %+v", goal, s, some, whole, f, want)
			}
		}
		if got.Bad >= 0 {
			refused++
		} else {
			made += len(got.Picks)
			outside(t, s, got)
		}
	}
	if made < 800 || refused < 100 {
		t.Errorf("%d picks were made, %d rounds refused", made, refused)
	}
}

// piece is some part of some text's term, with all within it.
func piece(d *trials.Dice, l []api.Part) []api.Part {
	at := d.Roll(len(l))
	return slices.Clone(l[at:term.End(l, at)])
}

// TestP21_1Any: rules that no text of rules says, made of any parts, held against the document's
// words too.
func TestP21_1Any(t *testing.T) {
	d := trials.New(217)
	made, refused := 0, 0
	for i := 0; i < 12000; i++ {
		goal := uint8(1 + i%4)
		s := trials.Text(goal, d, 3)
		l, _ := syntax.Term(goal, s)
		other, _ := syntax.Term(api.GStmts, trials.Text(api.GStmts, d, 3))
		r := api.Rule{Name: "r", Goal: uint8(1 + d.Roll(3)), Find: piece(d, l), By: piece(d, other)}
		if d.Roll(2) == 0 {
			r.By = piece(d, l)
		}
		for _, name := range []string{"a", "x", "T", "f"} {
			if d.Roll(2) == 0 {
				r.Holes = append(r.Holes, api.Hole{Name: name, Kind: uint8(1 + d.Roll(7))})
			}
		}
		if r.Goal == api.GStmts && r.By[0].Kind != api.KStmts {
			r.By = append([]api.Part{{Kind: api.KStmts, Kids: 1}}, r.By...)
		}
		if rule.Check(r) != api.OK {
			continue
		}
		want := round(goal, s, []api.Rule{r}, 1<<30)
		got, f := patch.Round(goal, s, []api.Rule{r})
		if f != (api.Fault{}) || !same(got, want) {
			t.Fatalf("Round(%d, %q, %v) = %+v, %v; want %+v", goal, s, r, got, f, want)
		}
		if got.Bad >= 0 {
			refused++
		} else {
			made += len(got.Picks)
			outside(t, s, got)
		}
	}
	if made < 200 || refused < 200 {
		t.Errorf("%d picks were made, %d rounds refused", made, refused)
	}
}

// tight is a text without the blanks that it can do without.
func tight(goal uint8, s string) string {
	want, _ := syntax.Term(goal, s)
	for i := 0; i < len(s); i++ {
		if s[i] != ' ' {
			continue
		}
		less := s[:i] + s[i+1:]
		if l, f := syntax.Term(goal, less); f == (api.Fault{}) && term.Same(l, want) {
			s = less
		}
	}
	return s
}

// outside: what stands outside of the edits stays, byte for byte.
func outside(t *testing.T, s string, r api.Round) {
	if span.Check(len(s), r.Edits) != api.OK || len(r.Edits) != len(r.Picks) {
		t.Fatalf("%v may not stand in %q", r.Edits, s)
	}
	for at := 0; at < len(s); at++ {
		if to, ok := span.Move(len(s), r.Edits, at); ok && r.Text[to] != s[at] {
			t.Fatalf("byte %d of %q is another one in %q", at, s, r.Text)
		}
	}
}

// TestP21_3: where each rule's By is its Find, the term stays; and where none fits, the text.
func TestP21_3(t *testing.T) {
	d := trials.New(213)
	all := rules(t, ruleTexts...)
	for i := range all {
		if all[i].By = all[i].Find; all[i].Goal == api.GStmts {
			all[i].By = append([]api.Part{{Kind: api.KStmts, Kids: 1}}, all[i].Find...)
		}
	}
	kept := 0
	for i := 0; i < 1500; i++ {
		goal := uint8(1 + i%4)
		s := trials.Text(goal, d, 3)
		before, _ := syntax.Term(goal, s)
		got, f := patch.Round(goal, s, all)
		after, f2 := syntax.Term(goal, got.Text)
		if f != (api.Fault{}) || f2 != (api.Fault{}) || !term.Same(before, after) {
			t.Fatalf("%q became %q", s, got.Text)
		}
		if got.Bad < 0 && len(got.Picks) > 0 {
			kept++
		}
		none, f := patch.Round(goal, s, rules(t, "expr||nowhere|x"))
		if f != (api.Fault{}) || !same(none, api.Round{Text: s, Bad: -1}) {
			t.Fatalf("%q without a match became %+v", s, none)
		}
	}
	if kept < 300 {
		t.Errorf("only %d rounds", kept)
	}
}

// TestR1: many picks end soon.
func TestR1(t *testing.T) {
	s := strings.Repeat("a;", 12000)
	if got, f := patch.Round(api.GStmts, s, rules(t, "expr||a|b.c")); f != (api.Fault{}) || got.Text != strings.Repeat("b.c;", 12000) {
		t.Errorf("many picks: %v, Bad %d", f, got.Bad)
	}
}

// TestR3: what is handed in stays; no two lists of an answer share memory.
func TestR3(t *testing.T) {
	r := append(rules(t, "expr|x expr,y expr|x + y|y + x"), api.Rule{Name: "behind"})
	got, _ := patch.Round(api.GExpr, "f(a + b, c + d)", r[:1])
	want, _ := patch.Round(api.GExpr, "f(a + b, c + d)", r[:1])
	_ = append(got.Picks[0].Binds, api.Bind{Name: "new"})
	got.Picks[0].Binds[0].Name, got.Edits[0].Text = "changed", "changed"
	again, _ := patch.Round(api.GExpr, "f(a + b, c + d)", r[:1])
	if !same(want, again) || got.Picks[1].Binds[0].Name != "x" || r[1].Name != "behind" || r[0].Holes[0].Name != "x" {
		t.Error("a list is shared or changed")
	}
}
