package tree_test

import (
	"math"
	"math/rand"
	"slices"
	"testing"

	"emend/api"
	"emend/tree"
)

type nodes = []api.Node

func nd(kind uint8, kids, word, from, to int) api.Node {
	return api.Node{Kind: kind, Kids: kids, Word: word, From: from, To: to}
}

func example() nodes {
	return nodes{nd(api.KBinary, 2, 1, 0, 3), nd(api.KName, 0, 0, 0, 1), nd(api.KName, 0, 2, 2, 3)}
}

// node is a tree as the document tells it, kids within.
type node struct {
	at, up, end int
	kids        []*node
}

// grow makes trees of the numbers of kids; nil, if these make none.
func grow(l nodes, at, up int) *node {
	if at >= len(l) || l[at].Kids < 0 {
		return nil
	}
	x := &node{at: at, up: up, end: at + 1}
	for i := 0; i < l[at].Kids; i++ {
		k := grow(l, x.end, at)
		if k == nil {
			return nil
		}
		x.kids, x.end = append(x.kids, k), k.end
	}
	return x
}

// right tells whether a node and all within it are as the document asks.
func (x *node) right(l nodes, n int) bool {
	p := l[x.at]
	if p.Kind > api.KLast || p.From < 0 || p.From > p.To || p.To > n {
		return false
	}
	own := p.Word >= p.From && p.Word < p.To
	last := p.From
	for _, k := range x.kids {
		q := l[k.at]
		if q.From < last || q.To > p.To || !k.right(l, n) {
			return false
		}
		own = own && !(p.Word >= q.From && p.Word < q.To)
		last = q.To
	}
	return own || p.Word == -1
}

func (x *node) each(do func(*node, int), depth int) {
	do(x, depth)
	for _, k := range x.kids {
		k.each(do, depth+1)
	}
}

func isTree(l nodes, n int) (*node, bool) {
	x := grow(l, 0, -1)
	ok := x != nil && x.end == len(l) && x.right(l, n)
	return x, ok
}

// some makes a tree of n tokens, or nearly one.
func some(r *rand.Rand, n int) nodes {
	var l nodes
	var put func(from, to, depth int)
	put = func(from, to, depth int) {
		i := len(l)
		l = append(l, nd(uint8(r.Intn(69)), 0, -1, from, to))
		at := from
		var own []int
		for kids := r.Intn(4); depth > 0 && kids > 0; kids-- {
			f := at + r.Intn(to-at+1)
			for ; at < f; at++ {
				own = append(own, at)
			}
			at += r.Intn(to - at + 1)
			l[i].Kids++
			put(f, at, depth-1)
		}
		for ; at < to; at++ {
			own = append(own, at)
		}
		if len(own) > 0 && r.Intn(2) == 0 {
			l[i].Word = own[r.Intn(len(own))]
		}
	}
	from := r.Intn(2)
	put(from, from+r.Intn(n-from+1), 3)
	if r.Intn(2) == 0 {
		i := r.Intn(len(l))
		switch d := r.Intn(3) - 1; r.Intn(6) {
		case 0:
			l[i].Kids += d
		case 1:
			l[i].From += d
		case 2:
			l[i].To += d
		case 3:
			l[i].Word += d
		case 4:
			l[i].Kind = uint8(60 + r.Intn(20))
		case 5:
			l = l[:i]
		}
	}
	return l
}

func TestP10_1(t *testing.T) {
	for _, c := range []struct {
		l    nodes
		n    int
		want api.Errno
	}{
		{example(), 3, api.OK}, {example(), 2, api.ErrTree}, {example()[:2], 3, api.ErrTree}, {example(), api.MaxTokens, api.OK}, {example(), api.MaxTokens + 1, api.ErrArg}, {example(), -1, api.ErrArg}, {nil, 0, api.ErrTree}, {nil, -1, api.ErrArg}, {nil, math.MaxInt, api.ErrArg},
		{nodes{nd(0, 0, -1, 0, 0)}, 0, api.OK}, {nodes{nd(69, 0, -1, 0, 0)}, 0, api.ErrTree}, {nodes{nd(68, 0, -1, 0, 0)}, 0, api.OK}, {nodes{nd(0, 0, 0, 0, 0)}, 1, api.ErrTree}, {nodes{nd(0, 0, -2, 0, 1)}, 1, api.ErrTree}, {nodes{nd(0, 0, 1, 0, 1)}, 2, api.ErrTree},
		{nodes{nd(0, 1, 0, 0, 1), nd(0, 0, 0, 0, 1)}, 1, api.ErrTree}, {nodes{nd(0, 0, -1, 0, 0), nd(0, 0, -1, 0, 0)}, 1, api.ErrTree}, {nodes{nd(0, -1, -1, 0, 0)}, 1, api.ErrTree}, {nodes{nd(0, math.MaxInt, -1, 0, 0)}, 1, api.ErrTree}, {nodes{nd(0, 1, -1, 0, 0), nd(0, math.MaxInt, -1, 0, 0)}, 1, api.ErrTree},
		{nodes{nd(0, 0, -1, 1, 0)}, 2, api.ErrTree}, {nodes{nd(0, 0, -1, -1, 0)}, 2, api.ErrTree}, {nodes{nd(0, 0, -1, 0, math.MaxInt)}, 2, api.ErrTree}, {nodes{nd(0, 1, -1, 1, 2), nd(0, 0, -1, 0, 1)}, 2, api.ErrTree}, {nodes{nd(0, 1, -1, 0, 1), nd(0, 0, -1, 0, 2)}, 2, api.ErrTree},
		{nodes{nd(0, 2, -1, 0, 2), nd(0, 0, -1, 0, 2), nd(0, 0, -1, 1, 2)}, 2, api.ErrTree}, {nodes{nd(0, 2, -1, 0, 2), nd(0, 0, -1, 1, 1), nd(0, 0, -1, 1, 2)}, 2, api.OK}, {nodes{nd(0, 2, -1, 0, 2), nd(0, 0, -1, 1, 1), nd(0, 0, -1, 0, 0)}, 2, api.ErrTree},
		{nodes{nd(0, 1, 1, 0, 2), nd(0, 0, -1, 1, 1)}, 2, api.OK},
	} {
		if got := tree.Check(c.l, c.n); got != c.want {
			t.Errorf("Check(%v, %d) = %d, want %d", c.l, c.n, got, c.want)
		}
	}
	r := rand.New(rand.NewSource(10))
	good := 0
	for i := 0; i < 30000; i++ {
		l := some(r, 8)
		_, ok := isTree(l, 8)
		if got := tree.Check(l, 8) == api.OK; got != ok {
			t.Fatalf("Check(%v) = %v", l, got)
		}
		if ok {
			good++
		}
	}
	if good < 5000 || good > 25000 {
		t.Errorf("%d trees of 30000", good)
	}
}

func TestP10_2Examples(t *testing.T) {
	l := example()
	if tree.End(l, 0) != 3 || tree.End(l, 1) != 2 || !slices.Equal(tree.Kids(l, 0), []int{1, 2}) || tree.Up(l, 2) != 0 || tree.Up(l, 0) != -1 || !slices.Equal(tree.Own(l, 0), []int{1}) || tree.Over(l, 1) != 0 || tree.Over(l, 2) != 2 || tree.Over(l, 3) != -1 || tree.Depth(l) != 2 {
		t.Error("the example's answers are others")
	}
	nothing := func(l nodes, i int) bool {
		return tree.End(l, i) == -1 && tree.Up(l, i) == -1 && len(tree.Kids(l, i)) == 0 && len(tree.Own(l, i)) == 0
	}
	for _, i := range []int{-1, 3, math.MaxInt, math.MinInt} {
		if !nothing(l, i) || tree.Over(l, i) != -1 {
			t.Errorf("number %d has a node", i)
		}
	}
	for _, l := range []nodes{nil, example()[:2], {nd(0, 0, -1, 0, api.MaxTokens+1)}, {nd(99, 0, -1, 0, 1)}, {nd(0, math.MinInt, -1, 0, 1)}, {nd(0, 2, 0, 0, 2), nd(0, 0, -1, 0, 1), nd(0, 0, -1, 1, 2)}} {
		if !nothing(l, 0) || tree.Over(l, 0) != -1 || tree.Depth(l) != 0 {
			t.Errorf("%v is no tree", l)
		}
	}
	if far := (nodes{nd(0, 0, -1, 0, api.MaxTokens)}); tree.Over(far, api.MaxTokens-1) != 0 || tree.Depth(far) != 1 {
		t.Error("a tree of MaxTokens tokens is one")
	}
}

// TestP10_2_3: every answer, held against trees with their kids within them.
func TestP10_2_3(t *testing.T) {
	r := rand.New(rand.NewSource(11))
	for i := 0; i < 20000; i++ {
		l := some(r, 8)
		x, ok := isTree(l, 8)
		if !ok {
			continue
		}
		most, over := 0, map[int]int{}
		x.each(func(k *node, depth int) {
			most = max(most, depth)
			var kids, own []int
			for _, c := range k.kids {
				kids = append(kids, c.at)
			}
			for token := l[k.at].From; token < l[k.at].To; token++ {
				over[token] = k.at
				if !slices.ContainsFunc(kids, func(c int) bool { return l[c].From <= token && token < l[c].To }) {
					own = append(own, token)
				}
			}
			if tree.End(l, k.at) != k.end || tree.Up(l, k.at) != k.up || !slices.Equal(tree.Kids(l, k.at), kids) || !slices.Equal(tree.Own(l, k.at), own) {
				t.Fatalf("%v at %d: End %d, Up %d, Kids %v, Own %v", l, k.at, tree.End(l, k.at), tree.Up(l, k.at), tree.Kids(l, k.at), tree.Own(l, k.at))
			}
		}, 1)
		if tree.Depth(l) != most {
			t.Fatalf("Depth(%v) = %d, want %d", l, tree.Depth(l), most)
		}
		for token := -1; token < 10; token++ {
			want, ok := over[token]
			if !ok {
				want = -1
			}
			if got := tree.Over(l, token); got != want {
				t.Fatalf("Over(%v, %d) = %d, want %d", l, token, got, want)
			}
		}
	}
}

// TestR1: very deep and very wide lists end.
func TestR1(t *testing.T) {
	deep := make(nodes, 60000)
	for i := range deep {
		deep[i] = nd(api.KParen, 1, -1, 0, 0)
	}
	deep[len(deep)-1].Kids = 0
	if tree.Check(deep, 0) != api.OK || tree.Depth(deep) != 60000 || tree.End(deep, 5) != 60000 || tree.Up(deep, 59999) != 59998 {
		t.Error("a deep tree")
	}
	wide := make(nodes, 60000)
	wide[0] = nd(api.KStmts, 59999, -1, 0, 0)
	for i := range wide[1:] {
		wide[i+1] = nd(api.KEmpty, 0, -1, 0, 0)
	}
	if tree.Depth(wide) != 2 || len(tree.Kids(wide, 0)) != 59999 || tree.Up(wide, 59999) != 0 {
		t.Error("a wide tree")
	}
}

// TestR3: lists handed in stay; answers are new.
func TestR3(t *testing.T) {
	room := append(example(), nd(9, 9, 9, 9, 9))
	l := room[:3]
	tree.Check(l, 3)
	k, o := tree.Kids(l, 0), tree.Own(l, 0)
	k[0], o[0] = 9, 9
	if !slices.Equal(tree.Kids(l, 0), []int{1, 2}) || !slices.Equal(room, append(example(), nd(9, 9, 9, 9, 9))) {
		t.Error("a list is shared or changed")
	}
}
