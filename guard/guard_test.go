package guard_test

import (
	"slices"
	"strings"
	"testing"

	"emend/api"
	"emend/guard"
	"emend/render"
	"emend/syntax"
	"emend/term"
	"emend/trials"
)

var levels = map[string]int{"||": 1, "&&": 2, "==": 3, "!=": 3, "<": 3, "<=": 3, ">": 3, ">=": 3, "+": 4, "-": 4, "|": 4, "^": 4, "*": 5, "/": 5, "%": 5, "<<": 5, ">>": 5, "&": 5, "&^": 5}

func level(p api.Part) int {
	switch p.Kind {
	case api.KBinary:
		if n, ok := levels[p.Word]; ok {
			return n
		}
		return 1
	case api.KUnary, api.KStar:
		return 6
	}
	return 7
}

func TestP15_1Level(t *testing.T) {
	words := []string{"", "!", "=", "x", "<-", "&&&"}
	for w := range levels {
		words = append(words, w)
	}
	for kind := 0; kind < 256; kind++ {
		for _, w := range words {
			if p := (api.Part{Kind: uint8(kind), Kids: 9, Word: w}); guard.Level(p) != level(p) {
				t.Errorf("Level(%v) = %d", p, guard.Level(p))
			}
		}
	}
}

// guarded is the document's guarded list of the part at, and the number behind it.
func guarded(l []api.Part, from []int, at int) (out []api.Part, along []int, end int) {
	p := l[at]
	out, along, end = append(out, p), append(along, from[at]), at+1
	for i := 0; i < p.Kids; i++ {
		k := level(l[end])
		loose := false
		switch p.Kind {
		case api.KBinary:
			loose = i == 0 && k < level(p) || i == 1 && k <= level(p)
		case api.KUnary, api.KStar:
			loose = k < 6
		case api.KSelector, api.KIndex, api.KSlice, api.KAssert, api.KGuard, api.KCall:
			loose = i == 0 && k < 7
		case api.KTypeSwitch:
			loose = i == 2 && k < 7
		}
		if loose {
			out, along = append(out, api.Part{Kind: api.KParen, Kids: 1}), append(along, -1)
		}
		o, a, e := guarded(l, from, end)
		out, along, end = append(out, o...), append(along, a...), e
	}
	return out, along, end
}

// some makes a list that is well, mostly of what may be loose.
func some(d *trials.Dice, depth int) []api.Part {
	kinds := []uint8{api.KBinary, api.KBinary, api.KBinary, api.KUnary, api.KStar, api.KSelector, api.KIndex, api.KSlice, api.KAssert, api.KGuard, api.KCall, api.KTypeSwitch, api.KParen, api.KComposite, api.KName, 200}
	words := []string{"||", "&&", "==", "<", "+", "^", "*", "&^", "?", ""}
	p := api.Part{Kind: kinds[d.Roll(len(kinds))], Word: words[d.Roll(len(words))]}
	l := []api.Part{p}
	for n := d.Roll(5); depth > 0 && n > 0; n-- {
		l[0].Kids++
		l = append(l, some(d, depth-1)...)
	}
	return l
}

func TestP15_1Put(t *testing.T) {
	a, b, c := api.Part{Kind: api.KName, Word: "a"}, api.Part{Kind: api.KName, Word: "b"}, api.Part{Kind: api.KName, Word: "c"}
	plus, times, minus, paren := api.Part{Kind: api.KBinary, Kids: 2, Word: "+"}, api.Part{Kind: api.KBinary, Kids: 2, Word: "*"}, api.Part{Kind: api.KUnary, Kids: 1, Word: "-"}, api.Part{Kind: api.KParen, Kids: 1}
	call, none := api.Part{Kind: api.KCall, Kids: 2}, api.Part{Kind: api.KExprs}
	for _, x := range []struct{ l, want []api.Part }{
		{[]api.Part{times, plus, a, b, c}, []api.Part{times, paren, plus, a, b, c}}, {[]api.Part{plus, times, a, b, c}, []api.Part{plus, times, a, b, c}}, {[]api.Part{plus, a, plus, b, c}, []api.Part{plus, a, paren, plus, b, c}}, {[]api.Part{plus, plus, a, b, c}, []api.Part{plus, plus, a, b, c}},
		{[]api.Part{minus, minus, a}, []api.Part{minus, minus, a}}, {[]api.Part{minus, times, a, b}, []api.Part{minus, paren, times, a, b}}, {[]api.Part{call, plus, a, b, none}, []api.Part{call, paren, plus, a, b, none}}, {[]api.Part{call, minus, a, none}, []api.Part{call, paren, minus, a, none}}, {[]api.Part{a}, []api.Part{a}},
	} {
		if got, e := guard.Put(x.l); e != api.OK || !slices.Equal(got, x.want) {
			t.Errorf("Put(%v) = %v, %d", x.l, got, e)
		}
	}
	for _, l := range [][]api.Part{nil, {plus, a}, {a, b}, {{Kids: -1}}} {
		if got, e := guard.Put(l); e != api.ErrTree || len(got) != 0 {
			t.Errorf("Put(%v) = %v, %d", l, got, e)
		}
		if got, along, e := guard.With(l, []int{1}); e != api.ErrTree || len(got)+len(along) != 0 {
			t.Errorf("With(%v) = %v, %d", l, got, e)
		}
	}
	for _, from := range [][]int{nil, {1, 2}, {1, 2, 3, 4}} {
		if got, along, e := guard.With([]api.Part{plus, a, b}, from); e != api.ErrArg || len(got)+len(along) != 0 {
			t.Errorf("With(.., %v) = %v, %d", from, got, e)
		}
	}
}

// TestP15_1All and P15.2: lists of any shape, held against the document's words.
func TestP15_1All(t *testing.T) {
	d := trials.New(15)
	for i := 0; i < 20000; i++ {
		l := some(d, 4)
		from := make([]int, len(l))
		for j := range from {
			from[j] = d.Roll(100) - 50
		}
		want, along, _ := guarded(l, from, 0)
		put, e := guard.Put(l)
		with, nums, e2 := guard.With(l, from)
		if e != api.OK || e2 != api.OK || !slices.Equal(put, want) || !slices.Equal(with, want) || !slices.Equal(nums, along) {
			t.Fatalf("With(%v) = %v, %v; want %v, %v", l, with, nums, want, along)
		}
		if again, _ := guard.Put(put); !slices.Equal(again, put) {
			t.Fatalf("Put of the guarded %v = %v", put, again)
		}
	}
}

// bare is an expression without its KParen.
func bare(l []api.Part) []api.Part {
	return slices.DeleteFunc(slices.Clone(l), func(p api.Part) bool { return p.Kind == api.KParen })
}

// TestP15_2 (and P5): what is read is guarded; without its brackets it is read as it is,
// once it is guarded.
func TestP15_2(t *testing.T) {
	d := trials.New(152)
	for i := 0; i < 4000; i++ {
		goal := uint8(1 + i%4)
		s := trials.Text(goal, d, 1+i%4)
		l, f := syntax.Term(goal, s)
		if got, e := guard.Put(l); f != (api.Fault{}) || e != api.OK || !slices.Equal(got, l) {
			t.Fatalf("%q is read, and not guarded", s)
		}
		if goal != api.GExpr || strings.ContainsAny(s, "{[") || strings.Contains(s, "func") || strings.Contains(s, "chan") {
			continue
		}
		put, e := guard.Put(bare(l))
		if e != api.OK || !render.Fits(api.GExpr, put) || !term.Same(bare(put), bare(l)) {
			x, _ := render.Text(put)
			t.Fatalf("%q without its brackets, guarded, is %q", s, x)
		}
	}
}

// TestR3: lists handed in stay, with the room behind their ends.
func TestR3(t *testing.T) {
	room := []api.Part{{Kind: api.KStar, Kids: 1}, {Kind: api.KBinary, Word: "+"}, {Kind: 77}, {Kind: 78}}
	nums := []int{1, 2, 3, 4}
	got, along, _ := guard.With(room[:2], nums[:2])
	got[0].Kind, along[0] = 9, 9
	if again, more, _ := guard.With(room[:2], nums[:2]); again[0].Kind != api.KStar || more[0] != 1 || room[0].Kids != 1 || room[2].Kind != 77 || nums[2] != 3 || nums[0] != 1 {
		t.Error("a list is shared or changed")
	}
}
