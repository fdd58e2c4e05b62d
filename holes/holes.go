// Package holes tells what holes stand for, and where: what the layers of rules share.
package holes

import "emend/api"

// Several tells whether holes of a kind stand for several parts.
func Several(kind uint8) bool {
	return kind == api.HExprs || kind == api.HStmts
}

// MayStand tells whether a part of a kind may stand for a hole of a kind.
func MayStand(hole, part uint8) bool {
	switch hole {
	case api.HExpr:
		return part >= api.KName && part <= api.KInterface && part != api.KKeyValue
	case api.HIdent:
		return part == api.KName
	case api.HLit:
		return part == api.KLit
	case api.HType:
		return typ(part)
	case api.HStmt:
		return part >= api.KEmpty && part <= api.KDeclStmt && part != api.KCase && part != api.KComm
	}
	return Several(hole)
}

// typ tells whether a part of a kind may be a type.
func typ(part uint8) bool {
	switch part {
	case api.KName, api.KParen, api.KSelector, api.KIndex, api.KStar:
		return true
	}
	return part >= api.KArray && part <= api.KInterface
}

// Set is the holes of a rule that may be, by their names.
type Set struct {
	holes   []api.Hole
	numbers map[string]int
}

// NewSet is the set of some holes.
func NewSet(l []api.Hole) Set {
	numbers := make(map[string]int, len(l))
	for i, h := range l {
		numbers[h.Name] = i
	}
	return Set{holes: l, numbers: numbers}
}

// At is the number of the hole in the place of which something stands, if that is put in
// the place of the part i of a term with places: of a hole for statements the part around
// the place. It is -1, if there is no such hole.
func (s Set) At(l []api.Part, i int) int {
	stmt := l[i].Kind == api.KExprStmt
	if stmt {
		i++
	}
	if l[i].Kind != api.KName {
		return -1
	}
	n, ok := s.numbers[l[i].Word]
	if !ok {
		return -1
	}
	kind := s.holes[n].Kind
	if stmt != (kind == api.HStmt || kind == api.HStmts) {
		return -1
	}
	return n
}

// Kind is the kind of a hole.
func (s Set) Kind(n int) uint8 {
	return s.holes[n].Kind
}
