package syntax

import "emend/api"

func (r *reader) file() *knot {
	r.want("package")
	name := r.name()
	r.want(";")
	imports := r.decls("import")
	others := r.decls("const", "var", "type", "func")
	return r.node(api.KFile, -1, 0, name, imports, others)
}

// decls reads declarations as long as one of their words is next.
func (r *reader) decls(words ...string) *knot {
	var kids []*knot
	for r.next(words...) {
		kids = append(kids, r.decl())
		r.want(";")
	}
	return r.row(api.KDecls, kids)
}

// decl reads the declaration whose word is next.
func (r *reader) decl() *knot {
	switch r.sign(0) {
	case "import":
		return r.group(r.importSpec)
	case "const":
		return r.group(r.constSpec)
	case "var":
		return r.group(r.varSpec)
	case "type":
		return r.group(r.typeSpec)
	}
	return r.funcDecl()
}

// group reads a word, and what it declares by itself or in brackets.
func (r *reader) group(spec func() *knot) *knot {
	word := r.step()
	if !r.take("(") {
		return r.node1(api.KGenOne, word, word, spec)
	}
	kids := r.semis(")", spec)
	r.want(")")
	return r.node(api.KGenMany, word, word, kids...)
}

// node1 is a node of the tokens from one on, and of the one kid that is read now.
func (r *reader) node1(kind uint8, word, from int, read func() *knot) *knot {
	kid := read()
	return r.node(kind, word, from, kid)
}

func (r *reader) importSpec() *knot {
	from, word := r.at, -1
	name := r.none()
	switch {
	case r.isName():
		name = r.name()
	case r.next("."):
		word = r.step()
	}
	if r.kind(0) != api.TString {
		r.fail()
	}
	path := r.leaf(api.KLit)
	return r.node(api.KImportSpec, word, from, name, path)
}

func (r *reader) constSpec() *knot {
	from := r.at
	names := r.names()
	typ := r.none()
	if r.next(";", ")") || r.ended() {
		return r.node(api.KValueSpec, -1, from, names, typ, r.none())
	}
	if !r.next("=") {
		typ = r.typ()
	}
	r.want("=")
	values := r.exprs()
	return r.node(api.KValueSpec, -1, from, names, typ, values)
}

func (r *reader) varSpec() *knot {
	from := r.at
	names := r.names()
	typ := r.none()
	if !r.next("=") {
		typ = r.typ()
	}
	values := r.none()
	if r.take("=") {
		values = r.exprs()
	}
	return r.node(api.KValueSpec, -1, from, names, typ, values)
}

func (r *reader) typeSpec() *knot {
	from, word := r.at, -1
	name := r.name()
	params := r.none()
	if r.next("[") && r.kind(1) == api.TName && (r.kind(2) == api.TName || r.follows(2, ",", "~", "interface", "func", "map", "chan", "struct")) {
		params = r.typeParams()
	}
	if r.next("=") {
		word = r.step()
	}
	typ := r.typ()
	return r.node(api.KTypeSpec, word, from, name, params, typ)
}

func (r *reader) funcDecl() *knot {
	from := r.step()
	receiver := r.none()
	if r.next("(") {
		receiver = r.params()
	}
	name := r.name()
	params := r.none()
	if r.next("[") {
		params = r.typeParams()
	}
	signature := r.signature()
	body := r.none()
	if r.next("{") {
		body = r.block()
	}
	return r.node(api.KFuncDecl, -1, from, receiver, name, params, signature, body)
}

func (r *reader) signature() *knot {
	from := r.at
	params := r.params()
	result := r.none()
	switch {
	case r.next("("):
		result = r.params()
	case r.isName() || r.next("[", "*", "struct", "map", "chan", "interface", "func", "<-"):
		result = r.typ()
	}
	return r.node(api.KSignature, -1, from, params, result)
}

func (r *reader) params() *knot {
	from := r.at
	r.want("(")
	var kids []*knot
	if !r.take(")") {
		kids = r.until(")", r.param)
	}
	return r.node(api.KParams, -1, from, kids...)
}

func (r *reader) param() *knot {
	from, word := r.at, -1
	name := r.none()
	if r.isName() && !r.follows(1, ",", ")", ".") && !r.follows(r.behindIndex(), ",", ")") {
		name = r.name()
	}
	if r.next("...") {
		word = r.step()
	}
	typ := r.typ()
	return r.node(api.KParam, word, from, name, typ)
}

// behindIndex is how far behind the name that is next the token stands that is behind
// the partner of the [ behind the name; 0, if there is no [, or nothing in it.
func (r *reader) behindIndex() int {
	if !r.follows(1, "[") || r.follows(2, "]") {
		return 0
	}
	return r.partners[r.at+1] - r.at + 1
}

func (r *reader) typeParams() *knot {
	from := r.at
	r.want("[")
	kids := r.until("]", r.typeParam)
	return r.node(api.KTParams, -1, from, kids...)
}

func (r *reader) typeParam() *knot {
	from := r.at
	names := r.names()
	union := r.union()
	return r.node(api.KTParam, -1, from, names, union)
}

func (r *reader) names() *knot {
	return r.commas(api.KNames, r.name)
}

func (r *reader) union() *knot {
	kids := []*knot{r.unionTerm()}
	for r.take("|") {
		kids = append(kids, r.unionTerm())
	}
	return r.row(api.KUnion, kids)
}

func (r *reader) unionTerm() *knot {
	if !r.next("~") {
		return r.typ()
	}
	return r.node1(api.KTilde, -1, r.step(), r.typ)
}
