package span_test

import (
	"math"
	"math/rand"
	"slices"
	"strings"
	"testing"

	"emend/api"
	"emend/span"
)

type edits = []api.Edit

func ed(from, to int, text string) api.Edit {
	return api.Edit{From: from, To: to, Text: text}
}

// stand is the document's word for edits that may stand in n bytes.
func stand(n int, l edits) bool {
	for i, x := range l {
		if x.From < 0 || x.From > x.To || x.To > n || i > 0 && x.From < l[i-1].To {
			return false
		}
	}
	return true
}

// apply puts edits that may stand into a text, the last one first.
func apply(s string, l edits) string {
	for i := len(l) - 1; i >= 0; i-- {
		s = s[:l[i].From] + l[i].Text + s[l[i].To:]
	}
	return s
}

// some makes lists of edits over a text of n bytes: of those that may stand and others.
func some(r *rand.Rand, n int) edits {
	var l edits
	at := 0
	for i := r.Intn(5); i > 0; i-- {
		x := api.Edit{From: at + r.Intn(3), Text: "abcab"[r.Intn(3):][:r.Intn(3)]}
		x.To = x.From + r.Intn(3)
		if r.Intn(12) == 0 {
			x.From -= r.Intn(3)
		}
		l, at = append(l, x), x.To
	}
	return l
}

func TestP3_1Check(t *testing.T) {
	for _, c := range []struct {
		n    int
		l    edits
		want api.Errno
	}{
		{0, nil, api.OK}, {-1, nil, api.ErrArg}, {api.MaxText, nil, api.OK}, {api.MaxText + 1, nil, api.ErrArg}, {math.MaxInt, nil, api.ErrArg}, {math.MinInt, nil, api.ErrArg},
		{4, edits{ed(2, 3, ""), ed(1, 1, "")}, api.ErrCross}, {4, edits{ed(1, 3, "X"), ed(3, 3, "Y")}, api.OK}, {4, edits{ed(2, 2, "a"), ed(2, 2, "b"), ed(2, 4, ""), ed(4, 4, "c")}, api.OK},
		{4, edits{ed(2, 1, "")}, api.ErrCross}, {4, edits{ed(-1, 1, "")}, api.ErrCross}, {4, edits{ed(3, 5, "")}, api.ErrCross}, {4, edits{ed(5, 5, "")}, api.ErrCross}, {4, edits{ed(1, 3, ""), ed(2, 4, "")}, api.ErrCross},
		{4, edits{ed(1, 1, ""), ed(0, 4, "")}, api.ErrCross}, {4, edits{ed(math.MinInt, math.MaxInt, "")}, api.ErrCross}, {4, edits{ed(0, math.MaxInt, "")}, api.ErrCross}, {4, edits{ed(math.MaxInt, math.MinInt, "")}, api.ErrCross},
		{-1, edits{ed(2, 1, "")}, api.ErrArg}, {0, edits{ed(0, 0, "a"), ed(0, 0, "b")}, api.OK}, {4, edits{ed(0, 4, ""), ed(4, 4, ""), ed(3, 4, "")}, api.ErrCross},
	} {
		if got := span.Check(c.n, c.l); got != c.want {
			t.Errorf("Check(%d, %v) = %d, want %d", c.n, c.l, got, c.want)
		}
	}
	r := rand.New(rand.NewSource(1))
	for i := 0; i < 3000; i++ {
		l := some(r, 8)
		if ok := span.Check(8, l) == api.OK; ok != stand(8, l) {
			t.Fatalf("Check(8, %v) = %v", l, ok)
		}
	}
}

func TestP3_1Apply(t *testing.T) {
	long := strings.Repeat("a", api.MaxText)
	for _, c := range []struct {
		s    string
		l    edits
		want string
		err  api.Errno
	}{
		{"abcd", edits{ed(1, 3, "X"), ed(3, 3, "Y")}, "aXYd", api.OK}, {"", nil, "", api.OK}, {"abc", nil, "abc", api.OK},
		{"ab", edits{ed(1, 1, "x"), ed(1, 1, "y"), ed(1, 2, "z")}, "axyz", api.OK}, {"ab", edits{ed(2, 3, "")}, "", api.ErrCross},
		{long, nil, long, api.OK}, {long + "a", nil, "", api.ErrLong}, {long + "a", edits{ed(3, 2, "")}, "", api.ErrLong}, {long + "a", edits{ed(0, 5, "")}, "", api.ErrLong},
		{long, edits{ed(5, 5, "x")}, "", api.ErrLong}, {long, edits{ed(0, 1, ""), ed(9, 9, "x")}, long[:8] + "x" + long[9:], api.OK}, {long, edits{ed(9, 9, "xx"), ed(12, 11, "")}, "", api.ErrCross},
		{"a", edits{ed(0, 1, long)}, long, api.OK}, {"a", edits{ed(0, 0, long)}, "", api.ErrLong}, {"a", edits{ed(0, 0, long), ed(0, 1, "")}, long, api.OK},
		{long, edits{ed(0, 0, long), ed(0, api.MaxText, "")}, long, api.OK}, {long, edits{ed(0, 0, long), ed(0, api.MaxText-1, "")}, "", api.ErrLong}, {long, edits{ed(0, api.MaxText, long)}, long, api.OK}, {long, edits{ed(0, api.MaxText, long+"a")}, "", api.ErrLong},
	} {
		if got, e := span.Apply(c.s, c.l); got != c.want || e != c.err {
			t.Errorf("Apply of %d bytes, %d edits: %d bytes, %d; want %d, %d", len(c.s), len(c.l), len(got), e, len(c.want), c.err)
		}
	}
}

func TestP3_2Move(t *testing.T) {
	l := edits{ed(1, 3, "X"), ed(3, 3, "Y")}
	for _, c := range []struct {
		n  int
		l  edits
		at int
		to int
		ok bool
	}{
		{4, l, 0, 0, true}, {4, l, 1, 0, false}, {4, l, 2, 0, false}, {4, l, 3, 3, true}, {4, l, 4, 4, true}, {4, l, 5, 0, false}, {4, l, -1, 0, false},
		{4, edits{ed(2, 4, "")}, 4, 2, true}, {4, edits{ed(2, 4, "")}, 3, 0, false}, {4, edits{ed(2, 2, "abc")}, 2, 5, true}, {4, edits{ed(2, 2, "abc")}, 1, 1, true},
		{4, edits{ed(2, 1, "")}, 0, 0, false}, {-1, nil, 0, 0, false}, {api.MaxText + 1, nil, 0, 0, false}, {0, edits{ed(0, 0, "a")}, 0, 1, true}, {4, nil, math.MaxInt, 0, false}, {4, nil, math.MinInt, 0, false},
	} {
		if to, ok := span.Move(c.n, c.l, c.at); to != c.to || ok != c.ok {
			t.Errorf("Move(%d, %v, %d) = %d, %v", c.n, c.l, c.at, to, ok)
		}
	}
}

func TestP3_3Undo(t *testing.T) {
	got, e := span.Undo("abcd", edits{ed(1, 3, "X"), ed(3, 3, "Y")})
	if want := (edits{ed(1, 2, "bc"), ed(2, 3, "")}); e != api.OK || !slices.Equal(got, want) {
		t.Errorf("Undo = %v, %d", got, e)
	}
	if got, e := span.Undo("ab", edits{ed(0, 0, ""), ed(1, 1, "")}); e != api.OK || !slices.Equal(got, edits{ed(0, 0, ""), ed(1, 1, "")}) {
		t.Errorf("Undo of edits that do nothing = %v, %d", got, e)
	}
	long := strings.Repeat("a", api.MaxText)
	for _, c := range []struct {
		s    string
		l    edits
		want api.Errno
	}{{long + "a", nil, api.ErrLong}, {"a", edits{ed(1, 0, "")}, api.ErrCross}, {long, edits{ed(0, 0, "x")}, api.ErrLong}} {
		if got, e := span.Undo(c.s, c.l); e != c.want || len(got) != 0 {
			t.Errorf("Undo: %d, want %d; %v", e, c.want, got)
		}
	}
}

func TestP3_4Trim(t *testing.T) {
	for _, c := range []struct {
		s    string
		l    edits
		want edits
	}{
		{"abcd", edits{ed(0, 4, "abXd")}, edits{ed(2, 3, "X")}}, {"aaa", edits{ed(0, 3, "aa")}, edits{ed(2, 3, "")}}, {"aa", edits{ed(0, 2, "aaa")}, edits{ed(2, 2, "a")}},
		{"abc", edits{ed(0, 3, "abc"), ed(3, 3, "")}, nil}, {"abc", edits{ed(1, 1, "x"), ed(1, 2, "b"), ed(2, 3, "")}, edits{ed(1, 1, "x"), ed(2, 3, "")}}, {"xyz", edits{ed(0, 3, "ayb")}, edits{ed(0, 3, "ayb")}},
		{"abab", edits{ed(0, 4, "ab")}, edits{ed(2, 4, "")}}, {"abcd", edits{ed(0, 2, "a"), ed(2, 4, "d")}, edits{ed(1, 2, ""), ed(2, 3, "")}},
	} {
		if got, e := span.Trim(c.s, c.l); e != api.OK || !slices.Equal(got, c.want) {
			t.Errorf("Trim(%q, %v) = %v, %d", c.s, c.l, got, e)
		}
	}
	long := strings.Repeat("a", api.MaxText)
	if got, e := span.Trim(long+"a", edits{ed(2, 1, "")}); e != api.ErrLong || len(got) != 0 {
		t.Errorf("Trim of a long text: %d", e)
	}
	if got, e := span.Trim("ab", edits{ed(2, 1, "")}); e != api.ErrCross || len(got) != 0 {
		t.Errorf("Trim of edits that cross: %d", e)
	}
	if got, e := span.Trim(long, edits{ed(0, 0, "xyz")}); e != api.OK || len(got) != 1 {
		t.Errorf("Trim makes no text: %d", e)
	}
}

func TestP3_4Diff(t *testing.T) {
	long := strings.Repeat("a", api.MaxText)
	for _, c := range []struct {
		a, b string
		want api.Edit
	}{
		{"aaa", "aa", api.Edit{From: 2, To: 3}}, {"abc", "abc", api.Edit{}}, {"", "", api.Edit{}}, {"", "ab", api.Edit{Text: "ab"}}, {"ab", "", api.Edit{To: 2}},
		{"abcd", "abXd", api.Edit{From: 2, To: 3, Text: "X"}}, {"abab", "ab", api.Edit{From: 2, To: 4}}, {long + "bc", long + "xc", api.Edit{From: api.MaxText, To: api.MaxText + 1, Text: "x"}},
	} {
		if got := span.Diff(c.a, c.b); got != c.want {
			t.Errorf("Diff = %v, want %v", got, c.want)
		}
	}
}

// left is the document's word for a place that no edit takes.
func left(n int, l edits, at int) bool {
	for _, x := range l {
		if at < n && x.From <= at && at < x.To {
			return false
		}
	}
	return true
}

// TestP3_5: what the promises come to, over many lists.
func TestP3_5(t *testing.T) {
	r := rand.New(rand.NewSource(2))
	const s = "abcabacb"
	for i := 0; i < 20000; i++ {
		l := some(r, len(s))
		got, e := span.Apply(s, l)
		if (e == api.OK) != stand(len(s), l) {
			t.Fatalf("Apply(%v) = %d", l, e)
		}
		if e != api.OK {
			continue
		}
		if got != apply(s, l) {
			t.Fatalf("Apply(%v) = %q, want %q", l, got, apply(s, l))
		}
		back, e := span.Undo(s, l)
		if again, e2 := span.Apply(got, back); e != api.OK || e2 != api.OK || again != s || len(back) != len(l) {
			t.Fatalf("Undo(%v) = %v: %q", l, back, again)
		}
		for j, x := range back {
			if x.Text != s[l[j].From:l[j].To] || got[x.From:x.To] != l[j].Text {
				t.Fatalf("Undo(%v) = %v", l, back)
			}
		}
		less, e := span.Trim(s, l)
		if again, e2 := span.Apply(s, less); e != api.OK || e2 != api.OK || again != got {
			t.Fatalf("Trim(%v) = %v: %q", l, less, again)
		}
		for at := 0; at <= len(s); at++ {
			to, ok := span.Move(len(s), l, at)
			if ok != left(len(s), l, at) || ok && at < len(s) && got[to] != s[at] || at == len(s) && to != len(got) {
				t.Fatalf("Move(%v, %d) = %d, %v", l, at, to, ok)
			}
		}
		d := span.Diff(s, got)
		if again, e := span.Apply(s, edits{d}); e != api.OK || again != got {
			t.Fatalf("Diff(%q, %q) = %v", s, got, d)
		}
	}
}

// TestR3: lists handed in stay, with the room behind their ends; answers are new.
func TestR3(t *testing.T) {
	room := edits{ed(1, 3, "Xc"), ed(3, 3, "Y"), ed(9, 9, "behind")}
	before := slices.Clone(room)
	l := room[:2]
	span.Check(4, l)
	span.Apply("abcd", l)
	span.Move(4, l, 3)
	back, _ := span.Undo("abcd", l)
	less, _ := span.Trim("abcd", l)
	for i := range back {
		back[i].Text = "changed"
	}
	for i := range less {
		less[i].Text = "changed"
	}
	_, _ = append(back, api.Edit{}), append(less, api.Edit{})
	if !slices.Equal(room, before) {
		t.Errorf("a list that was handed in was changed: %v", room)
	}
}
