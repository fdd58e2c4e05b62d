package nest_test

import (
	"math/rand"
	"slices"
	"strings"
	"testing"

	"emend/api"
	"emend/nest"
	"emend/semi"
)

func TestP9_1(t *testing.T) {
	for s, want := range map[string][]int{
		"f(a[1])": {-1, 6, -1, 5, -1, 3, 1, -1}, "": nil, "a": {-1, -1}, "(){}[];": {1, 0, 3, 2, 5, 4, -1}, "{[()]}": {5, 4, 3, 2, 1, 0, -1}, "'('": {-1, -1}, "/*(*/a;//)": {-1, -1}, "\"{\";": {-1, -1},
	} {
		l, got, f := nest.Of(s)
		tokens, _ := semi.Of(s)
		if f != (api.Fault{}) || !slices.Equal(got, want) || !slices.Equal(l, tokens) {
			t.Errorf("Of(%q) = %v, %v, %v", s, l, got, f)
		}
	}
	deep := strings.Repeat("(", api.MaxNest)
	for s, want := range map[string]api.Fault{
		"(]": {Err: api.ErrNest, At: 1}, "x)": {Err: api.ErrNest, At: 1}, "{(": {Err: api.ErrNest, At: 1}, deep + "(": {Err: api.ErrDeep, At: 100}, deep + "]": {Err: api.ErrNest, At: 100}, deep: {Err: api.ErrNest, At: 99}, "(() ": {Err: api.ErrNest, At: 0}, "(]" + deep + "(": {Err: api.ErrNest, At: 1},
		") 1x": {Err: api.ErrToken, At: 2}, ")\xff": {Err: api.ErrChar, At: 1}, "(()}": {Err: api.ErrNest, At: 3}, "[)": {Err: api.ErrNest, At: 1}, "{]": {Err: api.ErrNest, At: 1}, "(a{b[c": {Err: api.ErrNest, At: 4}, deep[1:] + "()(((": {Err: api.ErrDeep, At: 102}, "  }": {Err: api.ErrNest, At: 2},
		strings.Repeat("(", api.MaxText+1): {Err: api.ErrLong},
	} {
		l, p, f := nest.Of(s)
		n, g := nest.Depth(s)
		if f != want || g != want || len(l) != 0 || len(p) != 0 || n != 0 {
			t.Errorf("Of(%.20q) = %v; Depth %d, %v", s, f, n, g)
		}
	}
	all := deep + strings.Repeat(")", api.MaxNest)
	if _, _, f := nest.Of(all); f != (api.Fault{}) {
		t.Errorf("Of of 100 brackets = %v", f)
	}
}

func TestP9_2(t *testing.T) {
	for s, want := range map[string]int{"a(b){c[1]}": 2, "": 0, "a": 0, "()": 1, "()()": 1, "(()[{}])": 3, strings.Repeat("[", 100) + strings.Repeat("]", 100): 100} {
		if n, f := nest.Depth(s); n != want || f != (api.Fault{}) {
			t.Errorf("Depth(%q) = %d, %v", s, n, f)
		}
	}
}

// TestP9_3: partners of partners, what stands between them, and a text in brackets.
func TestP9_3(t *testing.T) {
	r := rand.New(rand.NewSource(9))
	good := 0
	for i := 0; i < 30000; i++ {
		var b strings.Builder
		open := ""
		for n := r.Intn(12); n > 0; n-- {
			switch k := r.Intn(8); {
			case k < 3:
				b.WriteByte("([{"[k])
				open += string(")]}"[k])
			case k < 6 && open != "" && r.Intn(20) > 0:
				b.WriteByte(open[len(open)-1])
				open = open[:len(open)-1]
			default:
				b.WriteString([]string{"a ", "\n", ")", "1,", ";"}[r.Intn(5)])
			}
		}
		for ; open != ""; open = open[:len(open)-1] {
			b.WriteByte(open[len(open)-1])
		}
		s := b.String()
		l, p, f := nest.Of(s)
		if f != (api.Fault{}) {
			continue
		}
		good++
		for i, j := range p {
			x := s[l[i].From:l[i].To]
			if (j >= 0) != (x != "" && strings.Contains("()[]{}", x)) {
				t.Fatalf("Of(%q): partner of %q is %d", s, x, j)
			}
			if j < 0 {
				continue
			}
			y := s[l[j].From:l[j].To]
			if p[j] != i || i == j || i < j && !strings.Contains("() [] {}", x+y) {
				t.Fatalf("Of(%q): %d and %d", s, i, j)
			}
			for k := i + 1; k < j; k++ {
				if p[k] >= 0 && (p[k] <= i || p[k] >= j) {
					t.Fatalf("Of(%q): partner of %d leaves %d to %d", s, k, i, j)
				}
			}
		}
		n, _ := nest.Depth(s)
		wrapped := "(" + s + "\n)"
		_, q, f := nest.Of(wrapped)
		m, _ := nest.Depth(wrapped)
		if f != (api.Fault{}) || m != n+1 || q[0] != len(p)+1 {
			t.Fatalf("in brackets %q: depth %d behind %d, %v", s, m, n, f)
		}
		for i, j := range p {
			if j < 0 && q[i+1] != -1 || j >= 0 && q[i+1] != j+1 {
				t.Fatalf("in brackets %q: %v behind %v", s, q, p)
			}
		}
	}
	if good < 5000 {
		t.Errorf("only %d texts were read", good)
	}
}

// TestR3: the lists of an answer are new each time.
func TestR3(t *testing.T) {
	l, p, _ := nest.Of("(a)")
	l[0].To, p[0] = 9, 9
	if m, q, _ := nest.Of("(a)"); m[0].To != 1 || q[0] != 2 {
		t.Error("an answer is kept")
	}
}
