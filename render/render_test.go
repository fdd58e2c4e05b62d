package render_test

import (
	"strings"
	"testing"

	"emend/api"
	"emend/render"
	"emend/syntax"
	"emend/term"
	"emend/trials"
)

// row is a row of the document's table: how many kids, which words ("none" is the empty
// one), and the text: digits are kids, $ is the word, & a line end, ‹ › stand around what
// lacks if the kid named in it is empty, !n is dot n, and what stands behind @ stands
// between all kids.
type row struct {
	kids  int // -1: any number, -2: one or more
	words string
	text  string
}

var table = []row{
	{0, "none", ""}, {3, "none", "package 0&12"}, {-1, "none", "#"}, {1, "var type", "$ 0"}, {-1, "const import", "G"}, {2, "none .", "W‹0 ›1"}, {3, "none", "0‹ 1›‹ = 2›"}, {3, "none =", "01 W2"}, {5, "none", "func ‹0 ›123‹ 4›"}, {2, "none", "0‹ 1›"},
	{-2, "none", "@, "}, {-1, "none", "@, "}, {-1, "none", "@, "}, {-1, "none", "#"}, {-1, "none", "(@, )"}, {2, "none ...", "‹0 ›$1"}, {-2, "none", "[@, ]"}, {2, "none", "0‹ 1›"}, {-2, "none", "@ | "}, {1, "none", "~0"}, {-1, "none", "@; "}, {3, "none", "0‹ 1›‹ 2›"}, {2, "none", "0‹ 1›"}, {-1, "none", "@; "}, {2, "none", "01"}, {-1, "none", "@"},
	{0, "a x αβ", "$"}, {0, "1 2.5 'c' \"s\" `r`", "$"}, {1, "none", "(0)"}, {2, "none", "!0.1"}, {2, "none", "0[1]"}, {4, "none", "0[1:2‹:3›]"}, {2, "none", "!0.(1)"}, {1, "none", "!0.(type)"}, {2, "none ...", "C"}, {1, "none", "*0"}, {1, "+ - ! ^ & <-", "U"}, {2, "|| && + * &^ <<", "0 $ 1"}, {2, "none", "0: 1"}, {2, "none", "0{1}"}, {2, "none", "func0 1"},
	{2, "none", "[0]1"}, {1, "none", "[...]0"}, {1, "none", "[]0"}, {2, "none", "map[0]1"}, {1, "chan chan<- <-chan", "$ 0"}, {1, "none", "func0"}, {1, "none", "struct{0}"}, {1, "none", "interface{0}"},
	{0, "none", ";"}, {1, "none", "0"}, {2, "none", "0 <- 1"}, {1, "++ --", "0$"}, {2, "= := += &^=", "0 $ 1"}, {1, "none", "go 0"}, {1, "none", "defer 0"}, {1, "none", "return‹ 0›"}, {1, "break goto fallthrough", "$‹ 0›"}, {1, "none", "{‹&0›}"}, {4, "none", "if ‹0; ›1 2‹ else 3›"}, {3, "none", "switch ‹0; ›‹1 ›{&2}"}, {4, "none", "switch ‹0; ›‹1 := ›!2.(type) {&3}"}, {2, "none", "D"}, {1, "none", "select {&0}"}, {2, "none", "D"}, {4, "none", "F"}, {3, "none = :=", "R"}, {2, "none", "0: 1"}, {1, "none", "0"},
}

// text is the document's text of the part at, with raw texts, and the number behind it.
func text(l []api.Part, raw []string, at int) (string, int) {
	p := l[at]
	var kids []string
	var places []int
	end := at + 1
	for i := 0; i < p.Kids; i++ {
		k, e := text(l, raw, end)
		kids, places = append(kids, k), append(places, end)
		end = e
	}
	if raw != nil && raw[at] != "" {
		return raw[at], end
	}
	return fill(table[p.Kind].text, p.Word, kids, l, places), end
}

func fill(form, word string, kids []string, l []api.Part, places []int) string {
	switch form {
	case "#", "G":
		s := strings.Join(kids, "\n")
		if len(kids) > 0 {
			s += "\n"
		}
		if form == "#" {
			return s
		}
		if len(kids) > 0 {
			s = "\n" + s
		}
		return word + " (" + s + ")"
	case "C":
		form = "0(1)"
		if word != "" {
			form = "0(1 $)"
		}
	case "U":
		form = "$0"
		if l[places[0]].Kind == api.KUnary {
			form = "$ 0"
		}
	case "D":
		form = "case 0:&1"
		if kids[0] == "" {
			form = "default:&1"
		}
	case "F":
		form = "for 0; 1; ‹2 ›3"
		if kids[0] == "" && kids[2] == "" {
			form = "for ‹1 ›3"
		}
	case "R":
		form = "for range 1 2"
		if word != "" {
			form = "for 0 $ range 1 2"
		}
	}
	var b, group strings.Builder
	out, empty, dot := &b, false, false
	for i, c := range form {
		switch {
		case c == '@':
			rest := form[i+1:]
			closing := ""
			if n := strings.IndexAny(rest, ")]"); n >= 0 {
				rest, closing = rest[:n], rest[n:]
			}
			return b.String() + strings.Join(kids, rest) + closing
		case c == '‹':
			group.Reset()
			out, empty = &group, false
		case c == '›':
			if out = &b; !empty {
				b.WriteString(group.String())
			}
		case c >= '0' && c <= '9':
			empty = kids[c-'0'] == ""
			out.WriteString(kids[c-'0'])
			if dot && l[places[c-'0']].Kind == api.KLit {
				out.WriteString(" ")
			}
			dot = false
		case c == '!':
			dot = true
		case c == '$':
			out.WriteString(word)
		case c == 'W' && word != "":
			out.WriteString(word + " ")
		case c == 'W':
		case c == '&':
			out.WriteString("\n")
		default:
			out.WriteRune(c)
		}
	}
	return b.String()
}

// some makes a term of any kinds; more often than not of kind top.
func some(d *trials.Dice, top uint8, depth int) []api.Part {
	kind := top
	if depth <= 0 {
		kind = []uint8{api.KNone, api.KName, api.KLit, api.KEmpty, api.KStmts, api.KExprs, api.KElems, api.KParams}[d.Roll(8)]
	}
	r := table[kind]
	words := strings.Fields(r.words)
	p := api.Part{Kind: kind, Kids: r.kids, Word: words[d.Roll(len(words))]}
	if p.Word == "none" {
		p.Word = ""
	}
	switch {
	case depth <= 0 && r.kids < 0:
		p.Kids = 0
	case r.kids < 0:
		p.Kids = d.Roll(4) - r.kids - 1
	}
	l := []api.Part{p}
	for i := 0; i < p.Kids; i++ {
		kid := uint8(d.Roll(69))
		if d.Roll(3) == 0 {
			kid = api.KNone
		}
		l = append(l, some(d, kid, depth-1)...)
	}
	return l
}

// TestP14_1All: terms of each kind, held against the table.
func TestP14_1All(t *testing.T) {
	if len(table) != int(api.KLast)+1 {
		t.Fatalf("%d rows", len(table))
	}
	d := trials.New(14)
	for i := 0; i < 40000; i++ {
		l := some(d, uint8(i%69), 1+d.Roll(3))
		want, _ := text(l, nil, 0)
		if got, e := render.Text(l); got != want || e != api.OK {
			s, _ := term.Show(l)
			t.Fatalf("Text of %s = %q, %d; want %q", s, got, e, want)
		}
		raw := make([]string, len(l))
		for j := range raw {
			raw[j] = []string{"", "", "", "raw", " ", "{"}[d.Roll(6)]
		}
		want, _ = text(l, raw, 0)
		if got, e := render.Mixed(l, raw); got != want || e != api.OK {
			s, _ := term.Show(l)
			t.Fatalf("Mixed of %s with %q = %q, %d; want %q", s, raw, got, e, want)
		}
		got, _ := render.Mixed(l, make([]string, len(l)))
		if plain, _ := render.Text(l); got != plain {
			t.Fatalf("Mixed without raw texts = %q", got)
		}
	}
}

func read(t *testing.T, goal uint8, s string) []api.Part {
	t.Helper()
	l, f := syntax.Term(goal, s)
	if f != (api.Fault{}) {
		t.Fatalf("Term(%q) = %v", s, f)
	}
	return l
}

func TestP14_1Texts(t *testing.T) {
	for _, c := range []struct {
		goal    uint8
		s, want string
	}{
		{api.GStmts, "if x:=f();x{a}", "if x := f(); x {\na\n}\n"}, {api.GExpr, "a+b*(c)", "a + b * (c)"}, {api.GExpr, "- -x", "- -x"}, {api.GExpr, "-*x", "-*x"}, {api.GExpr, "1 .x", "1 .x"}, {api.GExpr, "f(a,b...,)", "f(a, b ...)"}, {api.GExpr, "x[a:b:c]", "x[a:b:c]"}, {api.GExpr, "x[:]", "x[:]"},
		{api.GType, "struct{a,b int;*c.d `t`}", "struct{a, b int; *c.d `t`}"}, {api.GType, "interface{m(a);~b|c}", "interface{m(a); ~b | c}"}, {api.GType, "chan<-a", "chan<- a"}, {api.GType, "func(a,...b)(c,d)", "func(a, ...b) (c, d)"}, {api.GExpr, "func(){}", "func() {}"}, {api.GExpr, "[]T{{1},a:2}", "[]T{{1}, a: 2}"},
		{api.GStmts, "for{};for a{};for;;a++{};for a:=range b{};for range c{}", "for {}\nfor a {}\nfor ; ; a++ {}\nfor a := range b {}\nfor range c {}\n"}, {api.GStmts, "switch a;{};switch b:=1 .(type){case c:default:}", "switch a; {\n}\nswitch b := 1 .(type) {\ncase c:\ndefault:\n}\n"}, {api.GStmts, "select{case<-a:b;default:}", "select {\ncase <-a:\nb\ndefault:\n}\n"},
		{api.GStmts, ";a:;b:c", ";\na: ;\nb: c\n"}, {api.GStmts, "const(a=1;b);var()", "const (\na = 1\nb\n)\nvar ()\n"}, {api.GStmts, "if a{}else if b{}else{c}", "if a {} else if b {} else {\nc\n}\n"}, {api.GStmts, "", ""}, {api.GFile, "package p;import . `a`;func(r T)f[K any]()", "package p\nimport . `a`\nfunc (r T) f[K any]()\n"}, {api.GFile, "package p;type(a=b;c[K,V ~d]e)", "package p\ntype (\na = b\nc[K, V ~d] e\n)\n"},
	} {
		if got, e := render.Text(read(t, c.goal, c.s)); got != c.want || e != api.OK {
			t.Errorf("Text of %q = %q, %d; want %q", c.s, got, e, c.want)
		}
	}
}

func TestP14_1Errors(t *testing.T) {
	name := func(n int) []api.Part { return []api.Part{{Kind: api.KName, Word: strings.Repeat("a", n)}} }
	for _, c := range []struct {
		l    []api.Part
		raw  []string
		want api.Errno
	}{
		{nil, nil, api.ErrTree}, {[]api.Part{{Kind: 69}}, []string{""}, api.ErrTree}, {[]api.Part{{Kind: api.KParen, Kids: 1}}, nil, api.ErrTree}, {[]api.Part{{Kind: api.KName}}, nil, api.ErrTree}, {name(1), nil, api.ErrArg}, {name(1), []string{"", ""}, api.ErrArg}, {name(api.MaxText + 1), []string{""}, api.ErrLong}, {name(api.MaxText + 1), nil, api.ErrArg},
		{name(1), []string{strings.Repeat("a", api.MaxText+1)}, api.ErrLong}, {name(api.MaxText), []string{""}, api.OK}, {name(api.MaxText + 1), []string{"a"}, api.OK}, {append([]api.Part{{Kind: api.KStar, Kids: 1}}, name(api.MaxText)...), []string{"", ""}, api.ErrLong}, {append([]api.Part{{Kind: api.KExprStmt, Kids: 1}}, name(api.MaxText)...), []string{"", ""}, api.OK},
		{append([]api.Part{{Kind: api.KStmts, Kids: 1}}, name(api.MaxText)...), []string{"", ""}, api.ErrLong},
	} {
		s, e := render.Mixed(c.l, c.raw)
		if e != c.want || e != api.OK && s != "" {
			t.Errorf("Mixed of %d parts, %d raw texts: %d, want %d", len(c.l), len(c.raw), e, c.want)
		}
		if s, e := render.Text(c.l); c.want == api.ErrTree && (s != "" || e != c.want) {
			t.Errorf("Text of %v = %q, %d", c.l, s, e)
		}
	}
	if s, e := render.Text(name(api.MaxText + 1)); s != "" || e != api.ErrLong {
		t.Errorf("Text of a long name: %d", e)
	}
	if s, e := render.Text(name(api.MaxText)); len(s) != api.MaxText || e != api.OK {
		t.Errorf("Text of a name of MaxText bytes: %d", e)
	}
}

func TestP14_2(t *testing.T) {
	a, b, c := api.Part{Kind: api.KName, Word: "a"}, api.Part{Kind: api.KName, Word: "b"}, api.Part{Kind: api.KName, Word: "c"}
	torn := []api.Part{{Kind: api.KBinary, Kids: 2, Word: "*"}, {Kind: api.KBinary, Kids: 2, Word: "+"}, a, b, c}
	whole := []api.Part{{Kind: api.KBinary, Kids: 2, Word: "+"}, {Kind: api.KBinary, Kids: 2, Word: "*"}, a, b, c}
	for _, x := range []struct {
		goal uint8
		l    []api.Part
		want bool
	}{
		{api.GExpr, torn, false}, {api.GExpr, whole, true}, {api.GType, whole, false}, {api.GStmts, whole, false}, {0, whole, false}, {5, whole, false}, {api.GExpr, nil, false}, {api.GExpr, []api.Part{a}, true}, {api.GType, []api.Part{a}, true}, {api.GExpr, []api.Part{{Kind: api.KParen, Kids: 1}}, false}, {api.GExpr, []api.Part{{Kind: api.KName, Word: "if"}}, false},
		{api.GExpr, []api.Part{{Kind: api.KName, Word: strings.Repeat("a", api.MaxText+1)}}, false}, {api.GStmts, []api.Part{{Kind: api.KStmts}}, true}, {api.GExpr, []api.Part{{Kind: api.KNone}}, false}, {api.GExpr, []api.Part{{Kind: api.KLit, Word: "`\x00`"}}, false},
	} {
		if got := render.Fits(x.goal, x.l); got != x.want {
			t.Errorf("Fits(%d, %v) = %v", x.goal, x.l, got)
		}
	}
}

// bareFor tells of the one sort of loop whose text may be read otherwise.
func bareFor(l []api.Part) bool {
	for i, p := range l {
		if p.Kind != api.KFor {
			continue
		}
		k := term.Kids(l, i)
		if l[k[0]].Kind != api.KNone || l[k[2]].Kind != api.KNone {
			continue
		}
		for _, q := range l[k[1]:k[2]] {
			switch q.Kind {
			case api.KArray, api.KDots, api.KSliceOf, api.KMapOf, api.KStruct, api.KFuncType:
				return true
			}
		}
	}
	return false
}

// TestP14_3 (and P4): what is read fits, and its text is its own.
func TestP14_3(t *testing.T) {
	d := trials.New(143)
	for i := 0; i < 6000; i++ {
		goal := uint8(1 + i%4)
		s := trials.Text(goal, d, 1+i%4)
		l, f := syntax.Term(goal, s)
		if f != (api.Fault{}) || len(s) > 3000 || bareFor(l) {
			continue
		}
		if !render.Fits(goal, l) {
			out, e := render.Text(l)
			t.Fatalf("the term of %q does not fit: %q, %d", s, out, e)
		}
		one, _ := render.Text(l)
		back, f := syntax.Term(goal, one)
		if two, e := render.Text(back); f != (api.Fault{}) || e != api.OK || one != two || !term.Same(back, l) {
			t.Fatalf("the text of %q is %q, its own %q", s, one, two)
		}
	}
	if l := read(t, api.GStmts, "for ; []a ; {}"); render.Fits(api.GStmts, l) {
		t.Error("for ; []a ; {} is read otherwise without its semicolons")
	}
}

// TestR1: deep terms, many and long texts.
func TestR1(t *testing.T) {
	deep := make([]api.Part, 60001)
	for i := range deep {
		deep[i] = api.Part{Kind: api.KParen, Kids: 1}
	}
	deep[60000] = api.Part{Kind: api.KName, Word: "a"}
	if s, e := render.Text(deep); s != "" || e != api.ErrLong {
		t.Errorf("a deep term: %d bytes, %d", len(s), e)
	}
	if s, e := render.Text(deep[30000:]); len(s) != 60001 || e != api.OK {
		t.Errorf("a deep term: %d bytes, %d", len(s), e)
	}
	wide := make([]api.Part, 100001)
	raw := make([]string, len(wide))
	wide[0] = api.Part{Kind: api.KExprs, Kids: 100000}
	for i := range raw[1:] {
		wide[i+1] = api.Part{Kind: api.KNone}
		raw[i+1] = strings.Repeat("x", 100)
	}
	if s, e := render.Mixed(wide, raw); s != "" || e != api.ErrLong {
		t.Errorf("many raw texts: %d bytes, %d", len(s), e)
	}
}

// TestR3: what is handed in stays.
func TestR3(t *testing.T) {
	l := []api.Part{{Kind: api.KStar, Kids: 1}, {Kind: api.KName, Word: "a"}, {Kind: 99}}
	raw := []string{"", "b", "behind"}
	if s, e := render.Mixed(l[:2], raw[:2]); s != "*b" || e != api.OK || l[0].Kids != 1 || l[2].Kind != 99 || raw[2] != "behind" || raw[0] != "" {
		t.Errorf("Mixed = %q, %d", s, e)
	}
}
