package term_test

import (
	"fmt"
	"math"
	"math/rand"
	"slices"
	"strconv"
	"strings"
	"testing"

	"emend/api"
	"emend/term"
)

type parts = []api.Part

func pt(kind uint8, kids int, word string) api.Part {
	return api.Part{Kind: kind, Kids: kids, Word: word}
}

func sum() parts {
	return parts{pt(api.KBinary, 2, "+"), pt(api.KName, 0, "a"), pt(api.KName, 0, "b")}
}

// node is a list as a tree with its kids within it.
type node struct {
	at, up, end int
	kids        []*node
}

func grow(l parts, at, up int) *node {
	if at >= len(l) || l[at].Kids < 0 {
		return nil
	}
	x := &node{at: at, up: up, end: at + 1}
	for i := 0; i < l[at].Kids; i++ {
		k := grow(l, x.end, at)
		if k == nil {
			return nil
		}
		x.kids, x.end = append(x.kids, k), k.end
	}
	return x
}

func well(l parts) *node {
	if x := grow(l, 0, -1); x != nil && x.end == len(l) {
		return x
	}
	return nil
}

func (x *node) each(do func(*node)) {
	do(x)
	for _, k := range x.kids {
		k.each(do)
	}
}

// row tells whether a list is trees in a row, and how many.
func row(l parts) (int, bool) {
	n := 0
	for at := 0; at < len(l); n++ {
		x := grow(l, at, -1)
		if x == nil {
			return 0, false
		}
		at = x.end
	}
	return n, true
}

// some makes a list that is mostly trees in a row.
func some(r *rand.Rand, n int) parts {
	var l parts
	var put func(depth int)
	put = func(depth int) {
		i := len(l)
		l = append(l, pt(uint8(r.Intn(256)), 0, []string{"", "", "x", "\"\xff", "é\n"}[r.Intn(5)]))
		for kids := r.Intn(4); depth > 0 && kids > 0; kids-- {
			l[i].Kids++
			put(depth - 1)
		}
	}
	for ; n > 0; n-- {
		put(3)
	}
	if len(l) > 0 && r.Intn(4) == 0 {
		l[r.Intn(len(l))].Kids += r.Intn(3) - 1
	}
	return l
}

// table is the document's table of kinds.
const table = `KNone 0|0|
KFile 1|3|
KDecls 2|any|
KGenOne 3|1|import const var type
KGenMany 4|any|import const var type
KImportSpec 5|2|none .
KValueSpec 6|3|
KTypeSpec 7|3|none =
KFuncDecl 8|5|
KSignature 9|2|
KNames 10|more|
KExprs 11|any|
KElems 12|any|
KStmts 13|any|
KParams 14|any|
KParam 15|2|none ...
KTParams 16|more|
KTParam 17|2|
KUnion 18|more|
KTilde 19|1|
KFields 20|any|
KField 21|3|
KEmbed 22|2|
KMethods 23|any|
KMethod 24|2|
KClauses 25|any|
KName 26|0|x αβ _ int
KLit 27|0|1 1.5 2i 0x_f 'a' "a" ` + "`a`" + `
KParen 28|1|
KSelector 29|2|
KIndex 30|2|
KSlice 31|4|
KAssert 32|2|
KGuard 33|1|
KCall 34|2|none ...
KStar 35|1|
KUnary 36|1|+ - ! ^ & <-
KBinary 37|2|OR && == != < <= > >= + - BAR ^ * / % << >> & &^
KKeyValue 38|2|
KComposite 39|2|
KFuncLit 40|2|
KArray 41|2|
KDots 42|1|
KSliceOf 43|1|
KMapOf 44|2|
KChanOf 45|1|chan chan<- <-chan
KFuncType 46|1|
KStruct 47|1|
KInterface 48|1|
KEmpty 49|0|
KExprStmt 50|1|
KSend 51|2|
KIncDec 52|1|++ --
KAssign 53|2|= := += -= *= /= %= &= BAR= ^= <<= >>= &^=
KGo 54|1|
KDefer 55|1|
KReturn 56|1|
KBranch 57|1|break continue goto fallthrough
KBlock 58|1|
KIf 59|4|
KSwitch 60|3|
KTypeSwitch 61|4|
KCase 62|2|
KSelect 63|1|
KComm 64|2|
KFor 65|4|
KRange 66|3|none = :=
KLabeled 67|2|
KDeclStmt 68|1|
`

func TestP11_1Check(t *testing.T) {
	all := strings.Fields("none . = ... x αβ _ int 1 1.5 2i 0x_f 08 1x 'a' \"a\" `a` 'ab' \"a + - ! ^ & <- || && == != < <= > >= | * / % << >> &^ := += -= *= /= %= &= |= ^= <<= >>= &^= ++ -- chan chan<- <-chan break continue goto fallthrough import const var type range a-b ~ ( ;")
	rows := strings.Split(strings.TrimSpace(table), "\n")
	if len(rows) != 69 {
		t.Fatalf("%d rows", len(rows))
	}
	for kind, r := range rows {
		f := strings.Split(r, "|")
		words := strings.Fields(strings.NewReplacer("BAR", "|", "OR", "||").Replace(f[2]))
		if len(words) == 0 {
			words = []string{"none"}
		}
		for n := 0; n < 8; n++ {
			good := f[1] == strconv.Itoa(n) || f[1] == "any" || f[1] == "more" && n > 0
			for _, w := range all {
				want := api.ErrTree
				if good && slices.Contains(words, w) {
					want = api.OK
				}
				if w == "none" {
					w = ""
				}
				l := parts{pt(uint8(kind), n, w)}
				for i := 0; i < n; i++ {
					l = append(l, pt(api.KNone, 0, ""))
				}
				if got := term.Check(l); got != want {
					t.Errorf("%s with %d kids and the word %q: %d", f[0], n, w, got)
				}
			}
		}
	}
	for kind := 69; kind < 256; kind++ {
		for n := 0; n < 3; n++ {
			if l := append(parts{pt(uint8(kind), n, "")}, make(parts, n)...); term.Check(l) != api.ErrTree || !term.Well(l) {
				t.Errorf("kind %d is none", kind)
			}
		}
	}
	wrong := append(parts{pt(api.KParen, 1, "")}, sum()...)
	wrong[1].Word = "="
	if term.Check(wrong) != api.ErrTree || term.Check(sum()[:2]) != api.ErrTree || term.Check(nil) != api.ErrTree {
		t.Error("what is no term is told to be one")
	}
}

func TestP11_1WellSame(t *testing.T) {
	for _, c := range []struct {
		l    parts
		want bool
	}{
		{nil, false}, {sum(), true}, {sum()[:2], false}, {append(sum(), pt(0, 0, "")), false}, {parts{pt(200, 0, "x")}, true}, {parts{pt(0, -1, "")}, false}, {parts{pt(0, math.MaxInt, "")}, false}, {parts{pt(0, math.MinInt, "")}, false},
		{parts{pt(0, 1, ""), pt(0, math.MaxInt, "")}, false}, {parts{pt(0, 2, ""), pt(0, math.MaxInt, ""), pt(0, math.MinInt, "")}, false}, {parts{pt(0, 2, ""), pt(0, -1, ""), pt(0, 0, "")}, false},
	} {
		if term.Well(c.l) != c.want {
			t.Errorf("Well(%v) = %v", c.l, !c.want)
		}
	}
	r := rand.New(rand.NewSource(12))
	last := parts{}
	for i := 0; i < 20000; i++ {
		l := some(r, r.Intn(3))
		if got := term.Well(l); got != (well(l) != nil) {
			t.Fatalf("Well(%v) = %v", l, got)
		}
		if got := term.Same(l, last); got != (fmt.Sprint(l) == fmt.Sprint(last)) || !term.Same(l, slices.Clone(l)) {
			t.Fatalf("Same(%v, %v) = %v", l, last, got)
		}
		last = l
	}
	x := parts{pt(1, -5, "a")}
	if !term.Same(nil, parts{}) || !term.Same(x, parts{pt(1, -5, "a")}) || term.Same(x, parts{pt(1, -5, "b")}) || term.Same(x, parts{pt(2, -5, "a")}) || term.Same(x, parts{pt(1, 5, "a")}) || term.Same(x, nil) || term.Same(sum(), sum()[:2]) {
		t.Error("Same of lists that are no trees")
	}
}

func TestP11_2(t *testing.T) {
	for _, i := range []int{-1, 3, math.MaxInt, math.MinInt} {
		if term.End(sum(), i) != -1 || term.Up(sum(), i) != -1 || len(term.Kids(sum(), i)) != 0 {
			t.Errorf("number %d has a part", i)
		}
	}
	for _, l := range []parts{nil, sum()[:2], sum()[1:], {pt(0, -1, "")}, {pt(0, math.MaxInt, "")}} {
		if term.End(l, 0) != -1 || term.Up(l, 0) != -1 || len(term.Kids(l, 0)) != 0 {
			t.Errorf("%v isn't well", l)
		}
	}
	r := rand.New(rand.NewSource(13))
	for i := 0; i < 10000; i++ {
		l := some(r, 1)
		x := well(l)
		if x == nil {
			continue
		}
		x.each(func(k *node) {
			var kids []int
			for _, c := range k.kids {
				kids = append(kids, c.at)
			}
			if term.End(l, k.at) != k.end || term.Up(l, k.at) != k.up || !slices.Equal(term.Kids(l, k.at), kids) {
				t.Fatalf("%v at %d: End %d, Up %d, Kids %v", l, k.at, term.End(l, k.at), term.Up(l, k.at), term.Kids(l, k.at))
			}
		})
	}
}

// show tells a tree as the document tells it.
func (x *node) show(l parts) string {
	p := l[x.at]
	s := "(" + strconv.Itoa(int(p.Kind))
	if p.Word != "" {
		s += ` "`
		for i := 0; i < len(p.Word); i++ {
			switch c := p.Word[i]; {
			case c == '"' || c == '\\':
				s += `\` + string(rune(c))
			case c == '\n':
				s += `\n`
			case c < 0x20 || c > 0x7E:
				s += fmt.Sprintf(`\x%02x`, c)
			default:
				s += string(rune(c))
			}
		}
		s += `"`
	}
	for _, k := range x.kids {
		s += " " + k.show(l)
	}
	return s + ")"
}

func TestP11_3Show(t *testing.T) {
	if s, e := term.Show(sum()); s != `(37 "+" (26 "a") (26 "b"))` || e != api.OK {
		t.Errorf("Show = %s, %d", s, e)
	}
	r := rand.New(rand.NewSource(14))
	for i := 0; i < 10000; i++ {
		l := some(r, 1)
		x := well(l)
		want, err := "", api.ErrTree
		if x != nil {
			want, err = x.show(l), api.OK
		}
		if s, e := term.Show(l); s != want || e != err {
			t.Fatalf("Show(%v) = %s, %d; want %s", l, s, e, want)
		}
		if back, e := term.Read(want); x != nil && (e != api.OK || !slices.Equal(back, l)) {
			t.Fatalf("Read(%s) = %v, %d", want, back, e)
		}
	}
	exact := parts{pt(0, 0, strings.Repeat("a", api.MaxShow-6))}
	s, e := term.Show(exact)
	if len(s) != api.MaxShow || e != api.OK {
		t.Errorf("Show of MaxShow bytes: %d bytes, %d", len(s), e)
	}
	if back, e := term.Read(s); e != api.OK || !slices.Equal(back, exact) {
		t.Errorf("Read of MaxShow bytes: %d", e)
	}
	for _, l := range []parts{{pt(0, 0, exact[0].Word+"a")}, {pt(0, 0, strings.Repeat("\xff", api.MaxShow/4))}, {pt(0, 1, exact[0].Word), pt(0, 0, "")}, {pt(1, 0, strings.Repeat("a", 2*api.MaxShow))}} {
		if s, e := term.Show(l); s != "" || e != api.ErrLong {
			t.Errorf("Show of too much: %d bytes, %d", len(s), e)
		}
	}
	if s, e := term.Show(parts{pt(0, 5, strings.Repeat("a", 2*api.MaxShow))}); s != "" || e != api.ErrTree {
		t.Errorf("Show of what isn't well: %d", e)
	}
}

func TestP11_3Read(t *testing.T) {
	for s, want := range map[string]parts{
		"(13)": {pt(13, 0, "")}, `(200 "x")`: {pt(200, 0, "x")}, "(0)": {pt(0, 0, "")}, "(255)": {pt(255, 0, "")}, `(1 (2 "\n") (3 (4)))`: {pt(1, 2, ""), pt(2, 0, "\n"), pt(3, 1, ""), pt(4, 0, "")}, `(26 "\xff\"\\")`: {pt(26, 0, "\xff\"\\")},
	} {
		if l, e := term.Read(s); e != api.OK || !slices.Equal(l, want) {
			t.Errorf("Read(%s) = %v, %d", s, l, e)
		}
	}
	for _, s := range []string{
		"", "(", ")", "()", "(13 )", "(013)", "(300)", "(256)", "(00)", "13", "(13", "(13))", "(13)(13)", "(13) ", " (13)", "( 13)", "(13  (1))", "(13(1))", `(26 "")`, `(26 "a)`, `(26 "a" )`, `(26"a")`, `(26  "a")`, `(26 "\u0061")`, `(26 "\t")`, `(26 "\x61")`, `(26 "\xFF")`, "(26 `a`)", `(26 'a')`, "(26 \"é\")", `(26 "a" "b")`,
		`(26 (1) "a")`, "(-1)", "(+1)", "(1_0)", "(x)", "(13\n)", "(13 (1)", `("a")`, "(99999999999999999999)", `(26 "a`, "(1 (2)) (3)", "(1 (2) )", strings.Repeat("(1 ", 1000), strings.Repeat("(1 ", api.MaxShow/3),
	} {
		if l, e := term.Read(s); e != api.ErrForm || len(l) != 0 {
			t.Errorf("Read(%.40q) = %v, %d", s, l, e)
		}
	}
	if l, e := term.Read(strings.Repeat("x", api.MaxShow+1)); e != api.ErrLong || len(l) != 0 {
		t.Errorf("Read of too much: %d", e)
	}
	const deep = 60000
	if l, e := term.Read(strings.Repeat("(1 ", deep) + "(2)" + strings.Repeat(")", deep)); e != api.OK || len(l) != deep+1 || term.End(l, 3) != deep+1 {
		t.Errorf("Read of a deep list: %d parts, %d", len(l), e)
	}
}

func TestP11_4Examples(t *testing.T) {
	one := parts{pt(api.KLit, 0, "1")}
	if got, e := term.Swap(sum(), 1, 1, one); e != api.OK || !slices.Equal(got, parts{pt(37, 2, "+"), pt(27, 0, "1"), pt(26, 0, "b")}) {
		t.Errorf("Swap = %v, %d", got, e)
	}
	if got, e := term.Swap(parts{pt(13, 1, ""), pt(49, 0, "")}, 1, 1, nil); e != api.OK || !slices.Equal(got, parts{pt(13, 0, "")}) {
		t.Errorf("Swap by none = %v, %d", got, e)
	}
	if got, e := term.Swap(sum(), 0, 1, one); e != api.OK || !slices.Equal(got, one) {
		t.Errorf("Swap of the root = %v, %d", got, e)
	}
	for _, c := range []struct {
		l    parts
		i, n int
		by   parts
		want api.Errno
	}{
		{sum()[:2], 1, 1, one, api.ErrTree}, {nil, 0, 1, one, api.ErrTree}, {sum(), 1, 1, sum()[:2], api.ErrTree}, {sum()[:2], -1, -1, one, api.ErrTree}, {sum(), -1, 1, one, api.ErrArg}, {sum(), 3, 1, one, api.ErrArg}, {sum(), 3, 0, one, api.ErrArg}, {sum(), 1, -1, one, api.ErrArg},
		{sum(), 1, 3, one, api.ErrArg}, {sum(), 2, 2, one, api.ErrArg}, {sum(), 0, 0, one, api.ErrArg}, {sum(), 0, 2, one, api.ErrArg}, {sum(), 0, 1, nil, api.ErrArg}, {sum(), 0, 1, append(one, one...), api.ErrArg}, {sum(), 1, math.MaxInt, one, api.ErrArg}, {sum(), 1, math.MinInt, one, api.ErrArg}, {sum(), math.MaxInt, 0, one, api.ErrArg}, {sum(), math.MinInt, 0, one, api.ErrArg},
		{sum(), 1, 1, parts{pt(0, -1, "")}, api.ErrTree}, {sum(), 1, 1, parts{pt(0, math.MaxInt, "")}, api.ErrTree}, {parts{pt(0, 2, ""), pt(1, 1, ""), pt(2, 0, ""), pt(3, 0, "")}, 2, 2, one, api.ErrArg},
	} {
		if got, e := term.Swap(c.l, c.i, c.n, c.by); e != c.want || len(got) != 0 {
			t.Errorf("Swap(%v, %d, %d, %v) = %v, %d; want %d", c.l, c.i, c.n, c.by, got, e, c.want)
		}
	}
}

// swapped is what Swap should make, by trees with their kids within them.
func swapped(x *node, l parts, i, n int, by parts) parts {
	if x.at == i && n == 1 && x.up < 0 {
		return by
	}
	out := parts{l[x.at]}
	trees, _ := row(by)
	for j := 0; j < len(x.kids); j++ {
		if x.kids[j].at == i {
			out = append(out, by...)
			out[0].Kids += trees - n
			for k := 0; k < n; k++ {
				j++
			}
			if j == len(x.kids) {
				break
			}
		}
		out = append(out, swapped(x.kids[j], l, i, n, by)...)
	}
	return out
}

func TestP11_4_5(t *testing.T) {
	r := rand.New(rand.NewSource(15))
	done := 0
	for c := 0; c < 30000; c++ {
		l, by := some(r, 1), some(r, r.Intn(3))
		x := well(l)
		trees, ok := row(by)
		if x == nil || !ok {
			continue
		}
		i, n := r.Intn(len(l)), r.Intn(4)
		may := false
		x.each(func(k *node) {
			for j, c := range k.kids {
				may = may || c.at == i && j+n <= len(k.kids)
			}
		})
		may = may || i == 0 && n == 1 && trees == 1
		got, e := term.Swap(l, i, n, by)
		if may != (e == api.OK) {
			t.Fatalf("Swap(%v, %d, %d, %v) = %d", l, i, n, by, e)
		}
		if !may {
			continue
		}
		done++
		want := swapped(x, l, i, n, by)
		if !slices.Equal(got, want) {
			t.Fatalf("Swap(%v, %d, %d, %v) = %v, want %v", l, i, n, by, got, want)
		}
		if trees == 0 && i >= len(got) {
			continue
		}
		to := len(l) - (len(got) - i - len(by))
		if up := term.Up(l, i); trees > 0 || i < len(got) && term.Up(got, i) == up {
			if back, e := term.Swap(got, i, trees, l[i:to]); e != api.OK || !slices.Equal(back, l) {
				t.Fatalf("Swap back of %v = %v, %d", l, back, e)
			}
		}
	}
	if done < 3000 {
		t.Errorf("only %d swaps", done)
	}
}

// TestR3: lists handed in stay, with the room behind their ends; answers are new.
func TestR3(t *testing.T) {
	room := append(sum(), pt(99, 9, "behind"))
	l, by := room[:3], append(parts{pt(27, 0, "1")}, pt(98, 8, "behind"))
	got, _ := term.Swap(l, 1, 1, by[:1])
	got[0].Word, got[1].Word = "x", "y"
	_ = append(got, pt(1, 1, "z"))
	whole, _ := term.Swap(l, 0, 1, by[:1])
	whole[0].Word = "x"
	term.Kids(l, 0)[0] = 7
	if !slices.Equal(room, append(sum(), pt(99, 9, "behind"))) || by[0].Word != "1" || by[1].Word != "behind" {
		t.Error("a list that was handed in was changed")
	}
	a, _ := term.Read("(1 (2))")
	a[0].Kind = 9
	if b, _ := term.Read("(1 (2))"); b[0].Kind != 1 {
		t.Error("an answer is kept")
	}
}
