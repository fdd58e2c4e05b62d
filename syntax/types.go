package syntax

import "emend/api"

// typeReaders are the readers of types that don't begin with a name.
func typeReaders() readers {
	return readers{
		"*":         (*reader).pointer,
		"(":         (*reader).typeInBrackets,
		"[":         (*reader).listType,
		"map":       (*reader).mapType,
		"chan":      (*reader).chanType,
		"<-":        (*reader).chanType,
		"func":      (*reader).funcType,
		"struct":    (*reader).structType,
		"interface": (*reader).interfaceType,
	}
}

func (r *reader) typ() *knot {
	if read, ok := r.types[r.sign(0)]; ok {
		return read(r)
	}
	return r.named()
}

func (r *reader) pointer() *knot {
	return r.node1(api.KStar, -1, r.step(), r.typ)
}

func (r *reader) typeInBrackets() *knot {
	from := r.step()
	typ := r.typ()
	r.want(")")
	return r.node(api.KParen, -1, from, typ)
}

// listType reads a type that begins with [.
func (r *reader) listType() *knot {
	from := r.step()
	switch {
	case r.take("]"):
		return r.node1(api.KSliceOf, -1, from, r.typ)
	case r.take("..."):
		r.want("]")
		return r.node1(api.KDots, -1, from, r.typ)
	}
	length := r.free(r.expr)
	r.want("]")
	elem := r.typ()
	return r.node(api.KArray, -1, from, length, elem)
}

func (r *reader) mapType() *knot {
	from := r.step()
	r.want("[")
	key := r.typ()
	r.want("]")
	elem := r.typ()
	return r.node(api.KMapOf, -1, from, key, elem)
}

func (r *reader) chanType() *knot {
	word := r.at
	if r.take("<-") {
		r.want("chan")
	} else {
		r.want("chan")
		r.take("<-")
	}
	return r.node1(api.KChanOf, word, word, r.typ)
}

func (r *reader) funcType() *knot {
	return r.node1(api.KFuncType, -1, r.step(), r.signature)
}

func (r *reader) structType() *knot {
	from := r.step()
	r.want("{")
	fields := r.row(api.KFields, r.semis("}", r.field))
	r.want("}")
	return r.node(api.KStruct, -1, from, fields)
}

func (r *reader) interfaceType() *knot {
	from := r.step()
	r.want("{")
	elems := r.row(api.KMethods, r.semis("}", r.elem))
	r.want("}")
	return r.node(api.KInterface, -1, from, elems)
}

// named reads a name, of a package too, and the types with which it is made.
func (r *reader) named() *knot {
	from := r.at
	k := r.name()
	if r.take(".") {
		name := r.name()
		k = r.node(api.KSelector, -1, from, k, name)
	}
	if !r.take("[") {
		return k
	}
	args := r.row(api.KExprs, r.until("]", r.typ))
	return r.node(api.KIndex, -1, from, k, args)
}

func (r *reader) field() *knot {
	from := r.at
	if r.next("*") {
		typ := r.node1(api.KStar, -1, r.step(), r.named)
		return r.node(api.KEmbed, -1, from, typ, r.tag())
	}
	if r.embeds() {
		typ := r.named()
		tag := r.tag()
		return r.node(api.KEmbed, -1, from, typ, tag)
	}
	names := r.names()
	typ := r.typ()
	tag := r.tag()
	return r.node(api.KField, -1, from, names, typ, tag)
}

// embeds tells whether an embedded type is next, that isn't a pointer.
func (r *reader) embeds() bool {
	if !r.isName() {
		return false
	}
	n := r.behindIndex()
	return r.follows(1, ";", "}", ".") || r.kind(1) == api.TString || r.follows(n, ";", "}") || r.kind(n) == api.TString
}

// tag reads a string, if one is next.
func (r *reader) tag() *knot {
	if r.kind(0) != api.TString {
		return r.none()
	}
	return r.leaf(api.KLit)
}

// elem reads what may stand within an interface.
func (r *reader) elem() *knot {
	if !r.isName() || r.sign(1) != "(" {
		return r.union()
	}
	from := r.at
	name := r.name()
	signature := r.signature()
	return r.node(api.KMethod, -1, from, name, signature)
}
