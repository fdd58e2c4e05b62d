package term

import (
	"math"

	"emend/api"
	"emend/class"
	"emend/number"
	"emend/quoted"
)

// kidsOf is how many kids a part of a kind has at least and at most.
func kidsOf(kind uint8) (int, int) {
	switch kind {
	case api.KNone, api.KName, api.KLit, api.KEmpty:
		return 0, 0
	case api.KGenOne, api.KTilde, api.KParen, api.KGuard, api.KStar, api.KUnary, api.KDots, api.KSliceOf, api.KChanOf,
		api.KFuncType, api.KStruct, api.KInterface, api.KExprStmt, api.KIncDec, api.KGo, api.KDefer, api.KReturn,
		api.KBranch, api.KBlock, api.KSelect, api.KDeclStmt:
		return 1, 1
	case api.KImportSpec, api.KSignature, api.KParam, api.KTParam, api.KEmbed, api.KMethod, api.KSelector, api.KIndex,
		api.KAssert, api.KCall, api.KBinary, api.KKeyValue, api.KComposite, api.KFuncLit, api.KArray, api.KMapOf,
		api.KSend, api.KAssign, api.KCase, api.KComm, api.KLabeled:
		return 2, 2
	case api.KFile, api.KValueSpec, api.KTypeSpec, api.KField, api.KSwitch, api.KRange:
		return 3, 3
	case api.KSlice, api.KIf, api.KTypeSwitch, api.KFor:
		return 4, 4
	case api.KFuncDecl:
		return 5, 5
	case api.KNames, api.KTParams, api.KUnion:
		return 1, math.MaxInt
	case api.KDecls, api.KGenMany, api.KExprs, api.KElems, api.KStmts, api.KParams, api.KFields, api.KMethods, api.KClauses:
		return 0, math.MaxInt
	}
	return 1, 0 // no kind: no number of kids will do
}

// mayHaveWord tells whether a part of a kind may have a word.
func mayHaveWord(kind uint8, word string) bool {
	switch kind {
	case api.KGenOne, api.KGenMany:
		return word == "import" || word == "const" || word == "var" || word == "type"
	case api.KImportSpec:
		return word == "" || word == "."
	case api.KTypeSpec:
		return word == "" || word == "="
	case api.KParam, api.KCall:
		return word == "" || word == "..."
	case api.KRange:
		return word == "" || word == "=" || word == ":="
	case api.KName:
		return class.Name(word)
	case api.KLit:
		return literal(word)
	case api.KChanOf:
		return word == "chan" || word == "chan<-" || word == "<-chan"
	case api.KIncDec:
		return word == "++" || word == "--"
	case api.KBranch:
		return word == "break" || word == "continue" || word == "goto" || word == "fallthrough"
	case api.KUnary, api.KBinary, api.KAssign:
		return operator(kind, word)
	}
	return word == ""
}

// operator tells whether a word is an operator of a kind.
func operator(kind uint8, word string) bool {
	switch word {
	case "+", "-", "^", "&":
		return kind == api.KUnary || kind == api.KBinary
	case "!", "<-":
		return kind == api.KUnary
	case "||", "&&", "==", "!=", "<", "<=", ">", ">=", "|", "*", "/", "%", "<<", ">>", "&^":
		return kind == api.KBinary
	case "=", ":=", "+=", "-=", "*=", "/=", "%=", "&=", "|=", "^=", "<<=", ">>=", "&^=":
		return kind == api.KAssign
	}
	return false
}

// literal tells whether a word is a number, or a text in marks.
func literal(word string) bool {
	if number.Kind(word) != 0 {
		return true
	}
	_, e := quoted.Value(word)
	return e == api.OK
}
