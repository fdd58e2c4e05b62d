package lines_test

import (
	"math"
	"slices"
	"strings"
	"testing"

	"emend/api"
	"emend/lines"
)

var texts = []string{"", "\n", "a", "a\n", "\na", "a\nbc\n", "a\nbc", "\n\n\n", "a\r\nb\r", "é\n€\n", "\x00\xff\n\xfe", "one\n\ntwo\n  three"}

// TestP4_1: the lines of texts, by a cut at each byte 10.
func TestP4_1(t *testing.T) {
	for _, s := range texts {
		want := strings.Split(s, "\n")
		if lines.Count(s) != len(want) {
			t.Errorf("Count(%q) = %d", s, lines.Count(s))
		}
		at, starts := 0, []int{}
		for i, w := range want {
			starts = append(starts, at)
			at += len(w) + 1
			if got, e := lines.Line(s, i+1); got != w || e != api.OK {
				t.Errorf("Line(%q, %d) = %q, %d", s, i+1, got, e)
			}
		}
		if got := lines.Starts(s); !slices.Equal(got, starts) {
			t.Errorf("Starts(%q) = %v", s, got)
		}
		for _, n := range []int{0, -1, len(want) + 1, math.MaxInt, math.MinInt} {
			if got, e := lines.Line(s, n); got != "" || e != api.ErrArg {
				t.Errorf("Line(%q, %d) = %q, %d", s, n, got, e)
			}
		}
	}
}

func TestP4_2Examples(t *testing.T) {
	const s = "a\nbc\n"
	for off, want := range []api.Pos{{Line: 1, Col: 1}, {Line: 1, Col: 2}, {Line: 2, Col: 1}, {Line: 2, Col: 2}, {Line: 2, Col: 3}, {Line: 3, Col: 1}} {
		if got, e := lines.At(s, off); got != want || e != api.OK {
			t.Errorf("At(%d) = %v, %d", off, got, e)
		}
	}
	for _, off := range []int{-1, 6, math.MaxInt, math.MinInt} {
		if got, e := lines.At(s, off); got != (api.Pos{}) || e != api.ErrArg {
			t.Errorf("At(%d) = %v, %d", off, got, e)
		}
	}
	for _, c := range []struct {
		p   api.Pos
		off int
		err api.Errno
	}{
		{api.Pos{Line: 2, Col: 3}, 4, api.OK}, {api.Pos{Line: 2, Col: 4}, 0, api.ErrArg}, {api.Pos{Line: 1, Col: 2}, 1, api.OK}, {api.Pos{Line: 1, Col: 3}, 0, api.ErrArg},
		{api.Pos{Line: 3, Col: 1}, 5, api.OK}, {api.Pos{Line: 3, Col: 2}, 0, api.ErrArg}, {api.Pos{Line: 4, Col: 1}, 0, api.ErrArg}, {api.Pos{Line: 0, Col: 1}, 0, api.ErrArg},
		{api.Pos{Line: 1, Col: 0}, 0, api.ErrArg}, {api.Pos{Line: -1, Col: -1}, 0, api.ErrArg}, {api.Pos{Line: 1, Col: math.MaxInt}, 0, api.ErrArg}, {api.Pos{Line: math.MaxInt, Col: 1}, 0, api.ErrArg}, {api.Pos{Line: 1, Col: math.MinInt}, 0, api.ErrArg},
	} {
		if off, e := lines.Off(s, c.p); off != c.off || e != c.err {
			t.Errorf("Off(%v) = %d, %d", c.p, off, e)
		}
	}
}

// TestP4_3: there and back at each place, and places in their order.
func TestP4_3(t *testing.T) {
	for _, s := range texts {
		last := api.Pos{}
		for off := 0; off <= len(s); off++ {
			p, e := lines.At(s, off)
			if back, e2 := lines.Off(s, p); e != api.OK || e2 != api.OK || back != off {
				t.Fatalf("Off(At(%q, %d)) = %d", s, off, back)
			}
			if p.Line < last.Line || p.Line == last.Line && p.Col <= last.Col {
				t.Fatalf("At(%q, %d) = %v behind %v", s, off, p, last)
			}
			last = p
		}
		var l []string
		for n := 1; n <= lines.Count(s); n++ {
			x, _ := lines.Line(s, n)
			l = append(l, x)
			for col := 1; col <= len(x)+1; col++ {
				p := api.Pos{Line: n, Col: col}
				off, e := lines.Off(s, p)
				if back, e2 := lines.At(s, off); e != api.OK || e2 != api.OK || back != p {
					t.Fatalf("At(Off(%q, %v)) = %v", s, p, back)
				}
			}
		}
		if strings.Join(l, "\n") != s {
			t.Errorf("the lines of %q are %q", s, l)
		}
	}
}

// TestR3: an answer is new each time.
func TestR3(t *testing.T) {
	a := lines.Starts("x\ny")
	a[0], a[1] = 9, 9
	if b := lines.Starts("x\ny"); !slices.Equal(b, []int{0, 2}) {
		t.Errorf("an answer is kept: %v", b)
	}
}
