// Package ways seeks the way in which a rule fits a part, of rules that may be and lists that
// are well: looked at once, a rule and a list are gone through for many parts.
package ways

import (
	"slices"

	"emend/api"
	"emend/holes"
	"emend/rule"
	"emend/term"
	"emend/woods"
)

// Check is what keeps rules from being sought in a list.
func Check(rules []api.Rule, l []api.Part) api.Errno {
	if !term.Well(l) {
		return api.ErrTree
	}
	if len(rules) > api.MaxRules {
		return api.ErrMany
	}
	for _, r := range rules {
		if e := rule.Check(r); e != api.OK {
			return e
		}
	}
	return api.OK
}

// Seeker is a rule that may be, which is sought.
type Seeker struct {
	names []api.Hole
	find  []api.Part
	ends  []int // of find
	holes holes.Set
}

// New is the seeker of a rule that may be.
func New(r api.Rule) *Seeker {
	return &Seeker{names: r.Holes, find: r.Find, ends: woods.Ends(r.Find), holes: holes.NewSet(r.Holes)}
}

// At tells whether the rule fits a part of a list whose ends are known, and what its holes
// stand for.
func (s *Seeker) At(l []api.Part, ends []int, i int) ([]api.Bind, bool) {
	if !s.mayFit(l[i]) {
		return nil, false
	}
	w := &way{Seeker: s, l: l, lEnds: ends, stands: make([]stand, len(s.names))}
	done := func() bool { return true }
	if !w.part(0, i, done) {
		return nil, false
	}
	binds := make([]api.Bind, len(s.names))
	for n, h := range s.names {
		binds[n] = api.Bind{Name: h.Name, From: w.stands[n].from, To: w.stands[n].to}
	}
	return binds, true
}

// mayFit tells whether the rule may fit a part, going by the roots alone: most parts are seen
// to be others at once.
func (s *Seeker) mayFit(p api.Part) bool {
	if h := s.holes.At(s.find, 0); h >= 0 {
		return holes.MayStand(s.holes.Kind(h), p.Kind)
	}
	return s.find[0].Kind == p.Kind && s.find[0].Word == p.Word
}

// way is a way in which a rule may fit: what its holes stand for, as far as that is known.
type way struct {
	*Seeker
	l      []api.Part
	lEnds  []int
	stands []stand
}

// stand is what a hole stands for: the parts from one on up to another, so many kids.
type stand struct {
	known          bool
	from, to, kids int
}

// Each step below is handed what is to be done behind it (next), and tells whether that
// went well, too; if not, what it took a hole to stand for is forgotten.

// part fits the part f of what is sought, with all within it, to the part at.
func (w *way) part(f, at int, next func() bool) bool {
	p := w.l[at]
	if h := w.holes.At(w.find, f); h >= 0 {
		if holes.Several(w.holes.Kind(h)) || !holes.MayStand(w.holes.Kind(h), p.Kind) {
			return false
		}
		return w.stand(h, stand{true, at, w.lEnds[at], 1}, next)
	}
	q := w.find[f]
	if q.Kind != p.Kind || q.Word != p.Word {
		return false
	}
	if q.Kids != p.Kids && q.Kind != api.KExprs && q.Kind != api.KElems && q.Kind != api.KStmts {
		return false
	}
	return w.kids(row{f + 1, q.Kids}, row{at + 1, p.Kids}, next)
}

// row is kids that stand one behind the other: the first one, and how many there are.
type row struct{ at, kids int }

// kids fits kids of what is sought to kids of a part.
func (w *way) kids(find, l row, next func() bool) bool {
	if find.kids == 0 {
		return l.kids == 0 && next()
	}
	if h := w.holes.At(w.find, find.at); h >= 0 && holes.Several(w.holes.Kind(h)) {
		return w.several(h, find, l, next)
	}
	if l.kids == 0 {
		return false
	}
	return w.part(find.at, l.at, func() bool {
		return w.kids(behind(w.ends, find, 1), behind(w.lEnds, l, 1), next)
	})
}

// behind is the kids behind the first n.
func behind(ends []int, r row, n int) row {
	for range n {
		r.at = ends[r.at]
	}
	return row{r.at, r.kids - n}
}

// several fits kids of which the first one is the place of a hole for several: the least
// number that may be comes first.
func (w *way) several(h int, find, l row, next func() bool) bool {
	rest := behind(w.ends, find, 1)
	try := func(left row) bool {
		return w.stand(h, stand{true, l.at, left.at, l.kids - left.kids}, func() bool {
			return w.kids(rest, left, next)
		})
	}
	if s := w.stands[h]; s.known {
		return s.kids <= l.kids && try(behind(w.lEnds, l, s.kids))
	}
	own, other, fixed := w.places(h, find)
	left := l
	for room := l.kids - fixed; room >= 0; room -= own {
		if (room == 0 || other > 0 && room%other == 0) && try(left) {
			return true
		}
		if room >= own {
			left = behind(w.lEnds, left, 1)
		}
	}
	return false
}

// places counts, in a row of what is sought, the places of a hole for several; of the other
// one, if it isn't known what that stands for; and how many kids all else takes. More kids than
// the list has parts are no more counted: there may be more than an int holds.
func (w *way) places(h int, find row) (own, other, fixed int) {
	for ; find.kids > 0; find = behind(w.ends, find, 1) {
		x := w.holes.At(w.find, find.at)
		switch {
		case x == h:
			own++
		case x < 0 || !holes.Several(w.holes.Kind(x)):
			fixed++
		case w.stands[x].known:
			fixed = min(fixed+w.stands[x].kids, len(w.l))
		default:
			other++
		}
	}
	return own, other, fixed
}

// stand takes a hole to stand for something; where it stands for something else, it does not fit.
func (w *way) stand(h int, s stand, next func() bool) bool {
	old := w.stands[h]
	if old.known {
		return slices.Equal(w.l[old.from:old.to], w.l[s.from:s.to]) && next()
	}
	w.stands[h] = s
	if next() {
		return true
	}
	w.stands[h] = old
	return false
}
