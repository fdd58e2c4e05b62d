package woods_test

import (
	"math"
	"slices"
	"testing"

	"emend/api"
	"emend/woods"
)

func kids(n ...int) []api.Part {
	var l []api.Part
	for _, k := range n {
		l = append(l, api.Part{Kids: k})
	}
	return l
}

func TestTrees(t *testing.T) {
	for _, c := range []struct {
		l    []api.Part
		want int
	}{{nil, 0}, {kids(0), 1}, {kids(2, 0, 1, 0, 0), 2}, {kids(1), -1}, {kids(-1), -1}, {kids(math.MaxInt, math.MaxInt), -1}, {kids(2, 0), -1}, {kids(0, 0, 0), 3}} {
		if got := woods.Trees(c.l); got != c.want {
			t.Errorf("Trees(%v) = %d, want %d", c.l, got, c.want)
		}
	}
}

func TestPlaces(t *testing.T) {
	l := kids(3, 0, 2, 0, 0, 1, 0, 0)
	ends := woods.Ends(l)
	if want := []int{7, 2, 5, 4, 5, 7, 7, 8}; !slices.Equal(ends, want) {
		t.Errorf("Ends = %v, want %v", ends, want)
	}
	ups, places := woods.Ups(l)
	if want := []int{-1, 0, 0, 2, 2, 0, 5, -1}; !slices.Equal(ups, want) {
		t.Errorf("Ups = %v, want %v", ups, want)
	}
	if want := []int{0, 0, 1, 0, 1, 2, 0, 0}; !slices.Equal(places, want) {
		t.Errorf("Ups = .., %v, want %v", places, want)
	}
	for i := range l {
		if woods.End(l, i) != ends[i] {
			t.Errorf("End of %d = %d", i, woods.End(l, i))
		}
	}
	if got := woods.Kids(l, ends, 0); !slices.Equal(got, []int{1, 2, 5}) {
		t.Errorf("Kids = %v", got)
	}
}
