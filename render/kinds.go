package render

import "emend/api"

// declared puts the text of a declaration, or of a list of some kind.
func (w *writer) declared(i int, s string, k []int) {
	switch w.l[i].Kind {
	case api.KFile:
		w.put(word("package "), kid(k[0]), word("\n"), kid(k[1]), kid(k[2]))
	case api.KDecls, api.KStmts:
		w.lines(k)
	case api.KGenOne:
		w.put(word(s), word(" "), kid(k[0]))
	case api.KGenMany:
		w.put(word(s), word(" ("))
		if len(k) > 0 {
			w.put(word("\n"))
		}
		w.lines(k)
		w.put(word(")"))
	case api.KImportSpec:
		w.put(spaced(s), ifAny("", k[0], " "), kid(k[1]))
	case api.KValueSpec:
		w.put(kid(k[0]), ifAny(" ", k[1], ""), ifAny(" = ", k[2], ""))
	case api.KTypeSpec:
		w.put(kid(k[0]), kid(k[1]), word(" "), spaced(s), kid(k[2]))
	case api.KFuncDecl:
		w.put(word("func "), ifAny("", k[0], " "), kid(k[1]), kid(k[2]), kid(k[3]), ifAny(" ", k[4], ""))
	case api.KSignature, api.KEmbed, api.KTParam:
		w.put(kid(k[0]), ifAny(" ", k[1], ""))
	case api.KNames, api.KExprs, api.KElems:
		w.row(k, ", ")
	case api.KParam:
		w.put(ifAny("", k[0], " "), word(s), kid(k[1]))
	case api.KParams:
		w.put(word("("))
		w.row(k, ", ")
		w.put(word(")"))
	case api.KTParams:
		w.put(word("["))
		w.row(k, ", ")
		w.put(word("]"))
	case api.KUnion:
		w.row(k, " | ")
	case api.KTilde:
		w.put(word("~"), kid(k[0]))
	case api.KFields, api.KMethods:
		w.row(k, "; ")
	case api.KField:
		w.put(kid(k[0]), ifAny(" ", k[1], ""), ifAny(" ", k[2], ""))
	case api.KMethod:
		w.put(kid(k[0]), kid(k[1]))
	case api.KClauses:
		w.row(k, "")
	}
}

// expression puts the text of an expression that is no type alone.
func (w *writer) expression(i int, s string, k []int) {
	switch w.l[i].Kind {
	case api.KName, api.KLit:
		w.put(word(s))
	case api.KParen:
		w.put(word("("), kid(k[0]), word(")"))
	case api.KSelector:
		w.put(w.dotted(k[0]), word("."), kid(k[1]))
	case api.KIndex:
		w.put(kid(k[0]), word("["), kid(k[1]), word("]"))
	case api.KSlice:
		w.put(kid(k[0]), word("["), kid(k[1]), word(":"), kid(k[2]), ifAny(":", k[3], ""), word("]"))
	case api.KAssert:
		w.put(w.dotted(k[0]), word(".("), kid(k[1]), word(")"))
	case api.KGuard:
		w.put(w.dotted(k[0]), word(".(type)"))
	case api.KCall:
		w.put(kid(k[0]), word("("), kid(k[1]))
		if s != "" {
			w.put(word(" "), word(s))
		}
		w.put(word(")"))
	case api.KStar:
		w.put(word("*"), kid(k[0]))
	case api.KUnary:
		w.put(word(s))
		if w.l[k[0]].Kind == api.KUnary {
			w.put(word(" "))
		}
		w.put(kid(k[0]))
	case api.KBinary:
		w.put(kid(k[0]), word(" "), word(s), word(" "), kid(k[1]))
	case api.KKeyValue:
		w.put(kid(k[0]), word(": "), kid(k[1]))
	case api.KComposite:
		w.put(kid(k[0]), word("{"), kid(k[1]), word("}"))
	case api.KFuncLit:
		w.put(word("func"), kid(k[0]), word(" "), kid(k[1]))
	}
}

// typ puts the text of a type.
func (w *writer) typ(i int, s string, k []int) {
	switch w.l[i].Kind {
	case api.KArray:
		w.put(word("["), kid(k[0]), word("]"), kid(k[1]))
	case api.KDots:
		w.put(word("[...]"), kid(k[0]))
	case api.KSliceOf:
		w.put(word("[]"), kid(k[0]))
	case api.KMapOf:
		w.put(word("map["), kid(k[0]), word("]"), kid(k[1]))
	case api.KChanOf:
		w.put(word(s), word(" "), kid(k[0]))
	case api.KFuncType:
		w.put(word("func"), kid(k[0]))
	case api.KStruct:
		w.put(word("struct{"), kid(k[0]), word("}"))
	case api.KInterface:
		w.put(word("interface{"), kid(k[0]), word("}"))
	}
}

// statement puts the text of a statement, or of a clause.
func (w *writer) statement(i int, s string, k []int) {
	switch w.l[i].Kind {
	case api.KEmpty:
		w.put(word(";"))
	case api.KExprStmt, api.KDeclStmt:
		w.put(kid(k[0]))
	case api.KSend:
		w.put(kid(k[0]), word(" <- "), kid(k[1]))
	case api.KIncDec:
		w.put(kid(k[0]), word(s))
	case api.KAssign:
		w.put(kid(k[0]), word(" "), word(s), word(" "), kid(k[1]))
	case api.KGo:
		w.put(word("go "), kid(k[0]))
	case api.KDefer:
		w.put(word("defer "), kid(k[0]))
	case api.KReturn:
		w.put(word("return"), ifAny(" ", k[0], ""))
	case api.KBranch:
		w.put(word(s), ifAny(" ", k[0], ""))
	case api.KLabeled:
		w.put(kid(k[0]), word(": "), kid(k[1]))
	default:
		w.block(i, s, k)
	}
}

// block puts the text of a statement with a block, or of a clause.
func (w *writer) block(i int, s string, k []int) {
	switch w.l[i].Kind {
	case api.KBlock:
		w.put(word("{"), ifAny("\n", k[0], ""), word("}"))
	case api.KIf:
		w.put(word("if "), ifAny("", k[0], "; "), kid(k[1]), word(" "), kid(k[2]), ifAny(" else ", k[3], ""))
	case api.KSwitch:
		w.put(word("switch "), ifAny("", k[0], "; "), ifAny("", k[1], " "), word("{\n"), kid(k[2]), word("}"))
	case api.KTypeSwitch:
		w.put(word("switch "), ifAny("", k[0], "; "), ifAny("", k[1], " := "), w.dotted(k[2]), word(".(type) {\n"), kid(k[3]), word("}"))
	case api.KCase, api.KComm:
		if w.empty[k[0]] {
			w.put(word("default:"))
		}
		w.put(ifAny("case ", k[0], ":"), word("\n"), kid(k[1]))
	case api.KSelect:
		w.put(word("select {\n"), kid(k[0]), word("}"))
	case api.KFor:
		w.put(word("for "))
		if w.empty[k[0]] && w.empty[k[2]] {
			w.put(ifAny("", k[1], " "), kid(k[3]))
			return
		}
		w.put(kid(k[0]), word("; "), kid(k[1]), word("; "), ifAny("", k[2], " "), kid(k[3]))
	case api.KRange:
		w.put(word("for "))
		if s != "" {
			w.put(kid(k[0]), word(" "), word(s), word(" "))
		}
		w.put(word("range "), kid(k[1]), word(" "), kid(k[2]))
	}
}
