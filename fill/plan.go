package fill

import (
	"emend/api"
	"emend/holes"
	"emend/woods"
)

// plan is a rule that may be, and what it makes: counted once, for what it makes may be
// long, and is made often.
type plan struct {
	rule   api.Rule
	holes  holes.Set
	ends   []int // of By
	roots  []int // the parts of By of which the trees come that it makes
	own    int   // how many parts are the rule's own
	places []int // how many places each hole has
}

func newPlan(r api.Rule) *plan {
	p := &plan{rule: r, holes: holes.NewSet(r.Holes), ends: woods.Ends(r.By), roots: []int{0}, places: make([]int, len(r.Holes))}
	at := 0
	if r.Goal == api.GStmts {
		p.roots = woods.Kids(r.By, p.ends, 0)
		at = 1
	}
	for at < len(r.By) {
		if h := p.holes.At(r.By, at); h >= 0 {
			p.places[h]++
			at = p.ends[at]
		} else {
			p.own++
			at++
		}
	}
	return p
}

// mayBe tells whether binds may be, and how many trees each one is.
func (p *plan) mayBe(l []api.Part, binds []api.Bind) ([]int, bool) {
	if len(binds) != len(p.rule.Holes) {
		return nil, false
	}
	trees := make([]int, len(binds))
	for n, h := range p.rule.Holes {
		b := binds[n]
		if b.Name != h.Name || b.From < 0 || b.To < b.From || b.To > len(l) {
			return nil, false
		}
		trees[n] = woods.Trees(l[b.From:b.To])
		if trees[n] < 0 {
			return nil, false
		}
		if !holes.Several(h.Kind) && (trees[n] != 1 || !holes.MayStand(h.Kind, l[b.From].Kind)) {
			return nil, false
		}
	}
	return trees, true
}

// measure tells how many parts, and how many trees, the rule makes by binds that may be, and
// whether that is no more than MaxParts parts. What the binds put is held against the room that is
// left: all of it may be more than an int holds.
func (p *plan) measure(binds []api.Bind, trees []int) (size, makes int, ok bool) {
	size = p.own
	for n, b := range binds {
		long := b.To - b.From
		if long > 0 && p.places[n] > (api.MaxParts-size)/long {
			return 0, 0, false
		}
		size += p.places[n] * long
	}
	for _, i := range p.roots {
		makes++
		if h := p.holes.At(p.rule.By, i); h >= 0 {
			makes += trees[h] - 1
		}
	}
	return size, makes, size <= api.MaxParts
}

// fill puts what the rule makes by binds that may be behind what is there.
func (p *plan) fill(out *list, l []api.Part, binds []api.Bind, trees []int) {
	var put func(i int) int
	put = func(i int) int {
		if h := p.holes.At(p.rule.By, i); h >= 0 {
			out.grow(binds[h].From, l[binds[h].From:binds[h].To]...)
			return trees[h]
		}
		at, kids := len(out.parts), 0
		out.grow(-1, p.rule.By[i])
		for k := i + 1; k < p.ends[i]; k = p.ends[k] {
			kids += put(k)
		}
		out.parts[at].Kids = kids
		return 1
	}
	for _, i := range p.roots {
		put(i)
	}
}
