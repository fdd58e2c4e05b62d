package syntax

import "emend/api"

// stmtReaders are the readers of statements that are told by their first word.
func stmtReaders() readers {
	return readers{
		"const":       (*reader).declStmt,
		"var":         (*reader).declStmt,
		"type":        (*reader).declStmt,
		"go":          (*reader).goStmt,
		"defer":       (*reader).deferStmt,
		"return":      (*reader).returnStmt,
		"break":       (*reader).branchStmt,
		"continue":    (*reader).branchStmt,
		"goto":        (*reader).branchStmt,
		"fallthrough": (*reader).branchStmt,
		"{":           (*reader).block,
		"if":          (*reader).ifStmt,
		"switch":      (*reader).switchStmt,
		"select":      (*reader).selectStmt,
		"for":         (*reader).forStmt,
	}
}

func (r *reader) stmtList() *knot {
	var kids []*knot
	for !r.next("}", "case", "default") && !r.ended() {
		if r.next(";") {
			kids = append(kids, r.node(api.KEmpty, -1, r.at))
			r.step()
			continue
		}
		kids = append(kids, r.stmt())
		if !r.next("}") && !r.ended() {
			r.want(";")
		}
	}
	return r.row(api.KStmts, kids)
}

func (r *reader) block() *knot {
	from := r.at
	r.want("{")
	stmts := r.free(r.stmtList)
	r.want("}")
	return r.node(api.KBlock, -1, from, stmts)
}

func (r *reader) stmt() *knot {
	if read, ok := r.stmts[r.sign(0)]; ok {
		return read(r)
	}
	if r.isName() && r.follows(1, ":") {
		return r.labeled()
	}
	return r.simple()
}

func (r *reader) labeled() *knot {
	from := r.at
	name := r.name()
	r.want(":")
	if r.next(";", "}") || r.ended() {
		return r.node(api.KLabeled, -1, from, name, r.node(api.KEmpty, -1, r.at))
	}
	stmt := r.stmt()
	return r.node(api.KLabeled, -1, from, name, stmt)
}

func (r *reader) declStmt() *knot {
	return r.node1(api.KDeclStmt, -1, r.at, r.decl)
}

func (r *reader) goStmt() *knot {
	return r.node1(api.KGo, -1, r.step(), r.expr)
}

func (r *reader) deferStmt() *knot {
	return r.node1(api.KDefer, -1, r.step(), r.expr)
}

func (r *reader) returnStmt() *knot {
	from := r.step()
	values := r.row(api.KExprs, nil)
	if !r.next(";", "}") && !r.ended() {
		values = r.exprs()
	}
	return r.node(api.KReturn, -1, from, values)
}

func (r *reader) branchStmt() *knot {
	sign := r.sign(0)
	word := r.step()
	label := r.none()
	if sign == "goto" || sign != "fallthrough" && r.isName() {
		label = r.name()
	}
	return r.node(api.KBranch, word, word, label)
}

func (r *reader) simple() *knot {
	return r.behindExprs(r.exprs())
}

// behindExprs reads what is left of a simple statement behind its first expressions.
func (r *reader) behindExprs(left *knot) *knot {
	from := left.From
	if r.next("=", ":=", "+=", "-=", "*=", "/=", "%=", "&=", "|=", "^=", "<<=", ">>=", "&^=") {
		word := r.step()
		right := r.exprs()
		return r.node(api.KAssign, word, from, left, right)
	}
	if left.Kids > 1 {
		r.fail()
	}
	x := left.kids[0]
	switch {
	case r.next("++", "--"):
		word := r.step()
		return r.node(api.KIncDec, word, from, x)
	case r.take("<-"):
		value := r.expr()
		return r.node(api.KSend, -1, from, x, value)
	}
	return r.node(api.KExprStmt, -1, from, x)
}

// only is the expression of a statement that must be nothing else.
func (r *reader) only(k *knot) *knot {
	if k.Kind != api.KExprStmt {
		r.fail()
	}
	return k.kids[0]
}

func (r *reader) ifStmt() *knot {
	from := r.step()
	r.head = true
	init := r.none()
	var cond *knot
	if !r.next(";") {
		k := r.simple()
		if r.next(";") {
			init = k
		} else {
			cond = r.only(k)
		}
	}
	if cond == nil {
		r.want(";")
		cond = r.expr()
	}
	r.head = false
	then := r.block()
	other := r.none()
	if r.take("else") {
		if r.next("if") {
			other = r.ifStmt()
		} else {
			other = r.block()
		}
	}
	return r.node(api.KIf, -1, from, init, cond, then, other)
}

func (r *reader) switchStmt() *knot {
	from := r.step()
	r.head = true
	init, last := r.none(), r.none()
	if !r.next(";", "{") {
		last = r.simple()
	}
	if r.next(";") {
		if last.Kind != api.KNone {
			init = last
		}
		r.step()
		last = r.none()
		if !r.next("{") {
			last = r.simple()
		}
	}
	r.head = false
	if name, x := r.guarded(last); x != nil {
		r.want("{")
		clauses := r.clauses(r.typeCase)
		return r.node(api.KTypeSwitch, -1, from, init, name, x, clauses)
	}
	if last.Kind != api.KNone {
		last = r.only(last)
	}
	r.want("{")
	clauses := r.clauses(r.exprCase)
	return r.node(api.KSwitch, -1, from, init, last, clauses)
}

// guarded is the name, and what has the guard, of the last statement in the head of a
// type switch; nil, if it is none.
func (r *reader) guarded(k *knot) (*knot, *knot) {
	if k.Kind == api.KExprStmt && k.kids[0].Kind == api.KGuard {
		name := &knot{Node: api.Node{Kind: api.KNone, Word: -1, From: k.From, To: k.From}}
		return name, k.kids[0].kids[0]
	}
	if k.Kind != api.KAssign || r.signs[k.Word] != ":=" || k.kids[0].Kids != 1 || k.kids[1].Kids != 1 {
		return nil, nil
	}
	name, guard := k.kids[0].kids[0], k.kids[1].kids[0]
	if name.Kind != api.KName || guard.Kind != api.KGuard {
		return nil, nil
	}
	return name, guard.kids[0]
}

// clauses reads clauses up to the closing bracket, with it.
func (r *reader) clauses(read func() *knot) *knot {
	var kids []*knot
	for r.next("case", "default") {
		kids = append(kids, read())
	}
	k := r.row(api.KClauses, kids)
	r.want("}")
	return k
}

// clause reads a clause; of what stands behind case it is told the reader.
func (r *reader) clause(kind uint8, read func() *knot) *knot {
	from := r.at
	isCase := r.next("case")
	r.step()
	what := r.none()
	if isCase {
		what = read()
	}
	r.want(":")
	stmts := r.stmtList()
	return r.node(kind, -1, from, what, stmts)
}

func (r *reader) exprCase() *knot {
	return r.clause(api.KCase, r.exprs)
}

func (r *reader) typeCase() *knot {
	return r.clause(api.KCase, func() *knot { return r.commas(api.KExprs, r.typ) })
}

func (r *reader) commCase() *knot {
	return r.clause(api.KComm, r.simple)
}

func (r *reader) selectStmt() *knot {
	from := r.step()
	r.want("{")
	clauses := r.clauses(r.commCase)
	return r.node(api.KSelect, -1, from, clauses)
}

func (r *reader) forStmt() *knot {
	from := r.step()
	r.head = true
	init := r.none()
	switch {
	case r.next("range"):
		return r.ranged(from, init)
	case r.next("{"):
		return r.loop(from, init, init, init)
	case !r.next(";"):
		left := r.exprs()
		if r.next("=", ":=") && r.follows(1, "range") {
			return r.ranged(from, left)
		}
		k := r.behindExprs(left)
		if !r.next(";") {
			return r.loop(from, init, r.only(k), r.none())
		}
		init = k
	}
	r.want(";")
	cond := r.none()
	if !r.next(";") {
		cond = r.expr()
	}
	r.want(";")
	post := r.none()
	if !r.next("{") {
		post = r.simple()
	}
	return r.loop(from, init, cond, post)
}

// loop reads the block of a loop whose head was read.
func (r *reader) loop(from int, init, cond, post *knot) *knot {
	r.head = false
	body := r.block()
	return r.node(api.KFor, -1, from, init, cond, post, body)
}

// ranged reads a loop over something, behind what it sets.
func (r *reader) ranged(from int, left *knot) *knot {
	word := -1
	if r.next("=", ":=") {
		word = r.step()
	}
	r.want("range")
	x := r.expr()
	r.head = false
	body := r.block()
	return r.node(api.KRange, word, from, left, x, body)
}
