package syntax

import (
	"emend/api"
	"emend/levels"
)

func (r *reader) exprs() *knot {
	return r.commas(api.KExprs, r.expr)
}

func (r *reader) expr() *knot {
	return r.binary(1)
}

// binary reads an expression whose operators are of a level or tighter.
func (r *reader) binary(level int) *knot {
	from := r.at
	left := r.unary()
	for {
		tight := levels.Of(r.sign(0))
		if tight < level {
			return left
		}
		word := r.step()
		right := r.binary(tight + 1)
		left = r.node(api.KBinary, word, from, left, right)
	}
}

func (r *reader) unary() *knot {
	switch {
	case r.next("+", "-", "!", "^", "&") || r.next("<-") && !r.follows(1, "chan"):
		word := r.step()
		return r.node1(api.KUnary, word, word, r.unary)
	case r.next("*"):
		return r.node1(api.KStar, -1, r.step(), r.unary)
	}
	return r.primary()
}

func (r *reader) primary() *knot {
	from := r.at
	k := r.operand()
	for {
		switch {
		case r.next(".", "(", "["):
			k = r.free(func() *knot { return r.suffix(from, k) })
		case r.next("{") && r.mayHaveElements(k):
			elems := r.elements()
			k = r.node(api.KComposite, -1, from, k, elems)
		default:
			return k
		}
	}
}

// suffix reads what stands behind an expression and begins with a point or a bracket.
func (r *reader) suffix(from int, x *knot) *knot {
	switch {
	case r.take("."):
		return r.dotted(from, x)
	case r.take("("):
		return r.call(from, x)
	}
	r.want("[")
	return r.index(from, x)
}

func (r *reader) operand() *knot {
	switch r.kind(0) {
	case api.TName:
		return r.name()
	case api.TInt, api.TFloat, api.TImag, api.TRune, api.TString:
		return r.leaf(api.KLit)
	}
	switch {
	case r.next("("):
		from := r.step()
		k := r.free(r.expr)
		r.want(")")
		return r.node(api.KParen, -1, from, k)
	case r.next("func"):
		return r.function()
	case r.next("[", "struct", "map", "chan", "interface", "<-"):
		return r.typ()
	}
	r.fail()
	return nil
}

// function reads a function's type, or a function with its body.
func (r *reader) function() *knot {
	from := r.step()
	signature := r.signature()
	if !r.next("{") {
		return r.node(api.KFuncType, -1, from, signature)
	}
	body := r.block()
	return r.node(api.KFuncLit, -1, from, signature, body)
}

// mayHaveElements tells whether a { behind an expression begins its elements.
func (r *reader) mayHaveElements(k *knot) bool {
	switch k.Kind {
	case api.KArray, api.KDots, api.KSliceOf, api.KMapOf, api.KStruct:
		return true
	case api.KIndex:
		k = k.kids[0]
	}
	if k.Kind == api.KSelector {
		k = k.kids[0]
	}
	return k.Kind == api.KName && !r.head
}

// dotted reads what stands behind a point.
func (r *reader) dotted(from int, x *knot) *knot {
	if !r.take("(") {
		name := r.name()
		return r.node(api.KSelector, -1, from, x, name)
	}
	if r.take("type") {
		r.want(")")
		return r.node(api.KGuard, -1, from, x)
	}
	typ := r.typ()
	r.want(")")
	return r.node(api.KAssert, -1, from, x, typ)
}

// call reads arguments.
func (r *reader) call(from int, x *knot) *knot {
	var kids []*knot
	word, more := -1, true
	for more && word < 0 && !r.next(")") {
		kids = append(kids, r.expr())
		if r.next("...") {
			word = r.step()
		}
		more = r.take(",")
	}
	args := r.row(api.KExprs, kids)
	r.want(")")
	return r.node(api.KCall, word, from, x, args)
}

// index reads an index, or the ends of a slice.
func (r *reader) index(from int, x *knot) *knot {
	first := r.none()
	if !r.next(":") {
		first = r.expr()
	}
	if r.take(":") {
		return r.slice(from, x, first)
	}
	args := r.row(api.KExprs, r.rest("]", first, r.expr))
	return r.node(api.KIndex, -1, from, x, args)
}

// slice reads a slice behind its first : on.
func (r *reader) slice(from int, x, low *knot) *knot {
	high, most := r.none(), r.none()
	if !r.next("]") {
		high = r.expr()
		most = r.none()
		if r.take(":") {
			most = r.expr()
		}
	}
	r.want("]")
	return r.node(api.KSlice, -1, from, x, low, high, most)
}

func (r *reader) elements() *knot {
	r.want("{")
	return r.free(func() *knot {
		k := r.row(api.KElems, nil)
		if !r.take("}") {
			k = r.row(api.KElems, r.until("}", r.element))
		}
		return k
	})
}

func (r *reader) element() *knot {
	from := r.at
	k := r.value()
	if !r.take(":") {
		return k
	}
	value := r.value()
	return r.node(api.KKeyValue, -1, from, k, value)
}

// value reads an expression, or elements whose type is left out.
func (r *reader) value() *knot {
	if !r.next("{") {
		return r.expr()
	}
	from := r.at
	typ := r.none()
	elems := r.elements()
	return r.node(api.KComposite, -1, from, typ, elems)
}
