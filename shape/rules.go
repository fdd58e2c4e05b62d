package shape

import (
	"slices"

	"emend/api"
	"emend/woods"
)

// look is a term that is looked at, with what is asked of it often.
type look struct {
	l                 []api.Part
	ends, ups, places []int
	lastNamed         []int // of each KParams its last KParam with a name, else -1
	firstDefault      []int // of each KClauses its first KCase or KComm without a first kid, else -1
}

func newLook(l []api.Part) *look {
	x := &look{l: l, ends: woods.Ends(l)}
	x.ups, x.places = woods.Ups(l)
	x.lastNamed, x.firstDefault = slices.Repeat([]int{-1}, len(l)), slices.Repeat([]int{-1}, len(l))
	for i := range l {
		up := x.ups[i]
		switch {
		case x.in(i, api.KParam, api.KParams) && l[i+1].Kind != api.KNone:
			x.lastNamed[up] = i
		case x.clause(i) && l[i+1].Kind == api.KNone && x.firstDefault[up] < 0:
			x.firstDefault[up] = i
		}
	}
	return x
}

// in tells whether a part is of a kind, and the kid of a part of another one.
func (x *look) in(i int, kind, up uint8) bool {
	return x.l[i].Kind == kind && x.ups[i] >= 0 && x.l[x.ups[i]].Kind == up
}

// clause tells whether a part is a clause of a KClauses.
func (x *look) clause(i int) bool {
	return x.in(i, api.KCase, api.KClauses) || x.in(i, api.KComm, api.KClauses)
}

// kid is the number of a kid.
func (x *look) kid(i, n int) int {
	at := i + 1
	for range n {
		at = x.ends[at]
	}
	return at
}

// bare is the number of an expression from which all KParen around it are taken away.
func (x *look) bare(i int) int {
	for x.l[i].Kind == api.KParen {
		i++
	}
	return i
}

// receive tells whether an expression is a receive.
func (x *look) receive(i int) bool {
	p := x.l[x.bare(i)]
	return p.Kind == api.KUnary && p.Word == "<-"
}

// otherThan tells whether a part has a kid that isn't of a kind.
func (x *look) otherThan(i int, kind uint8) bool {
	at := i + 1
	for range x.l[i].Kids {
		if x.l[at].Kind != kind {
			return true
		}
		at = x.ends[at]
	}
	return false
}

func (x *look) dots(i int) bool {
	return x.l[i].Kind == api.KDots && !(x.in(i, api.KDots, api.KComposite) && x.places[i] == 0)
}

func (x *look) guard(i int) bool {
	return x.l[i].Kind == api.KGuard
}

// mixedParam: names and types alone stand mixed; what looks like a type may be a name
// that shares the type of a later one.
func (x *look) mixedParam(i int) bool {
	if !x.in(i, api.KParam, api.KParams) || x.l[i+1].Kind != api.KNone {
		return false
	}
	last := x.lastNamed[x.ups[i]]
	return last >= 0 && !(x.l[x.kid(i, 1)].Kind == api.KName && last > i)
}

func (x *look) earlyDots(i int) bool {
	return x.in(i, api.KParam, api.KParams) && x.l[i].Word != "" && x.ends[i] != x.ends[x.ups[i]]
}

func (x *look) noCall(i int) bool {
	kind := x.l[i].Kind
	return (kind == api.KGo || kind == api.KDefer) && x.l[i+1].Kind != api.KCall
}

func (x *look) setsNoName(i int) bool {
	return x.l[i].Kind == api.KAssign && x.l[i].Word == ":=" && x.otherThan(i+1, api.KName)
}

func (x *look) unevenAssign(i int) bool {
	if x.l[i].Kind != api.KAssign {
		return false
	}
	left, right := x.l[i+1].Kids, x.l[x.kid(i, 1)].Kids
	if x.l[i].Word == "=" || x.l[i].Word == ":=" {
		return right != 1 && right != left
	}
	return left != 1 || right != 1
}

func (x *look) secondDefault(i int) bool {
	return x.clause(i) && x.l[i+1].Kind == api.KNone && x.firstDefault[x.ups[i]] < i
}

func (x *look) comm(i int) bool {
	if x.l[i].Kind != api.KComm {
		return false
	}
	what := x.l[i+1]
	switch what.Kind {
	case api.KNone, api.KSend:
		return false
	case api.KExprStmt:
		return !x.receive(i + 2)
	case api.KAssign:
		right := x.kid(i+1, 1)
		left := x.l[i+2].Kids
		sets := (what.Word == "=" || what.Word == ":=") && (left == 1 || left == 2)
		return !sets || x.l[right].Kids != 1 || !x.receive(right+1)
	}
	return true
}

func (x *look) method(i int) bool {
	if x.l[i].Kind != api.KFuncDecl || x.l[i+1].Kind == api.KNone {
		return false
	}
	return x.l[i+1].Kids != 1 || x.l[x.kid(i, 2)].Kind != api.KNone
}

func (x *look) idle(i int) bool {
	return x.l[i].Kind == api.KExprStmt && x.l[x.bare(i+1)].Kind != api.KCall && !x.receive(i+1)
}

func (x *look) ranged(i int) bool {
	if x.l[i].Kind != api.KRange {
		return false
	}
	return x.l[i+1].Kids > 2 || x.l[i].Word == ":=" && x.otherThan(i+1, api.KName)
}

func (x *look) noString(i int) bool {
	last := 0
	switch x.l[i].Kind {
	case api.KImportSpec, api.KEmbed:
		last = x.kid(i, 1)
	case api.KField:
		last = x.kid(i, 2)
	default:
		return false
	}
	p := x.l[last]
	return p.Kind == api.KLit && p.Word[0] != '"' && p.Word[0] != '`'
}

func (x *look) firstConst(i int) bool {
	if !x.in(i, api.KValueSpec, api.KGenOne) && !x.in(i, api.KValueSpec, api.KGenMany) {
		return false
	}
	return x.places[i] == 0 && x.l[x.ups[i]].Word == "const" && x.l[x.kid(i, 2)].Kind == api.KNone
}

// dotsOut: what comes out of a function, or is its receiver, has no dots.
func (x *look) dotsOut(i int) bool {
	params := 0
	switch x.l[i].Kind {
	case api.KSignature:
		params = x.kid(i, 1)
	case api.KFuncDecl:
		params = i + 1
	default:
		return false
	}
	if x.l[params].Kind != api.KParams {
		return false
	}
	at := params + 1
	for range x.l[params].Kids {
		if x.l[at].Kind == api.KParam && x.l[at].Word != "" {
			return true
		}
		at = x.ends[at]
	}
	return false
}
