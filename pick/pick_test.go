package pick_test

import (
	"math"
	"slices"
	"testing"

	"emend/api"
	"emend/pick"
	"emend/syntax"
	"emend/term"
	"emend/trials"
)

func at(rule, part int, names ...string) api.Match {
	m := api.Match{Rule: rule, Part: part}
	for _, n := range names {
		m.Binds = append(m.Binds, api.Bind{Name: n, From: -5, To: part})
	}
	return m
}

func same(a, b api.Match) bool {
	return a.Rule == b.Rule && a.Part == b.Part && slices.Equal(a.Binds, b.Binds)
}

func sum(t *testing.T) []api.Part {
	l, f := syntax.Term(api.GExpr, "a + b + a")
	if f != (api.Fault{}) {
		t.Fatal(f)
	}
	return l
}

func TestP19_1(t *testing.T) {
	for i, c := range []struct{ m, want []api.Match }{
		{nil, nil}, {[]api.Match{at(0, 1), at(1, 4), at(0, 0), at(1, 0)}, []api.Match{at(0, 0)}}, {[]api.Match{at(1, 4), at(1, 2)}, []api.Match{at(1, 2), at(1, 4)}}, {[]api.Match{at(5, 1), at(0, 2), at(0, 4)}, []api.Match{at(5, 1), at(0, 4)}}, {[]api.Match{at(2, 1), at(1, 1), at(3, 1)}, []api.Match{at(1, 1)}},
		{[]api.Match{at(1, 2, "x"), at(1, 2, "y"), at(1, 2)}, []api.Match{at(1, 2, "x")}}, {[]api.Match{at(math.MaxInt, 4, "x", "z"), at(7, 3)}, []api.Match{at(7, 3), at(math.MaxInt, 4, "x", "z")}}, {[]api.Match{at(0, 4), at(0, 3), at(0, 2), at(0, 1)}, []api.Match{at(0, 1), at(0, 4)}},
	} {
		if got, e := pick.Pick(sum(t), c.m); e != api.OK || !slices.EqualFunc(got, c.want, same) {
			t.Errorf("%d: Pick = %v, %d; want %v", i, got, e, c.want)
		}
	}
	for i, c := range []struct {
		l    []api.Part
		m    []api.Match
		want api.Errno
	}{
		{nil, nil, api.ErrTree}, {sum(t)[:3], []api.Match{at(-1, -1)}, api.ErrTree}, {sum(t), []api.Match{at(0, 5)}, api.ErrArg}, {sum(t), []api.Match{at(0, -1)}, api.ErrArg}, {sum(t), []api.Match{at(0, 0), at(-1, 1)}, api.ErrArg}, {sum(t), []api.Match{at(0, math.MaxInt)}, api.ErrArg}, {sum(t), []api.Match{at(math.MinInt, 0)}, api.ErrArg}, {[]api.Part{{Kids: math.MaxInt}}, nil, api.ErrTree},
	} {
		if got, e := pick.Pick(c.l, c.m); e != c.want || len(got) != 0 {
			t.Errorf("wrong %d: Pick = %v, %d; want %d", i, got, e, c.want)
		}
	}
}

// picked is what the document says, match by match.
func picked(l []api.Part, m []api.Match) []api.Match {
	m = slices.Clone(m)
	slices.SortStableFunc(m, func(a, b api.Match) int {
		if a.Part != b.Part {
			return a.Part - b.Part
		}
		return a.Rule - b.Rule
	})
	var out []api.Match
	for _, x := range m {
		if n := len(out); n == 0 || x.Part >= term.End(l, out[n-1].Part) {
			out = append(out, x)
		}
	}
	return out
}

func TestP19_2(t *testing.T) {
	d := trials.New(19)
	for i := 0; i < 4000; i++ {
		l, _ := syntax.Term(uint8(1+i%4), trials.Text(uint8(1+i%4), d, 3))
		var m []api.Match
		for n := d.Roll(9); n > 0; n-- {
			m = append(m, at(d.Roll(3), d.Roll(len(l)), []string{"x", "y", "z"}[:d.Roll(4)]...))
		}
		got, e := pick.Pick(l, m)
		if want := picked(l, m); e != api.OK || !slices.EqualFunc(got, want, same) {
			t.Fatalf("Pick(%v, %v) = %v, %d; want %v", l, m, got, e, want)
		}
		for j, x := range got {
			if j > 0 && x.Part < term.End(l, got[j-1].Part) {
				t.Fatalf("%v is within %v", x, got[j-1])
			}
		}
		for _, x := range m {
			if !slices.ContainsFunc(got, func(p api.Match) bool { return x.Part >= p.Part && x.Part < term.End(l, p.Part) }) {
				t.Fatalf("%v stands in none of %v", x, got)
			}
		}
		if again, e := pick.Pick(l, got); e != api.OK || !slices.EqualFunc(again, got, same) {
			t.Fatalf("Pick of %v = %v", got, again)
		}
	}
}

// TestR3: what is handed in stays; answers share nothing with it.
func TestR3(t *testing.T) {
	m := []api.Match{at(1, 4, "x", "y"), at(1, 2, "z"), at(9, 9)}
	m[0].Binds = m[0].Binds[:1]
	got, _ := pick.Pick(sum(t), m[:2])
	got[0].Binds[0].Name, got[1].Binds[0].Name = "changed", "changed"
	_ = append(got[1].Binds, api.Bind{Name: "new"})
	if m[0].Part != 4 || m[1].Part != 2 || m[2].Part != 9 || m[0].Binds[0].Name != "x" || m[1].Binds[0].Name != "z" || m[0].Binds[:2][1].Name != "y" {
		t.Errorf("a list that was handed in was changed: %v", m)
	}
}
