// Package levels tells how tight the operators between two expressions are.
package levels

// Of is the level of an operator, the loosest 1; 0 of what is none.
func Of(sign string) int {
	switch sign {
	case "||":
		return 1
	case "&&":
		return 2
	case "==", "!=", "<", "<=", ">", ">=":
		return 3
	case "+", "-", "|", "^":
		return 4
	case "*", "/", "%", "<<", ">>", "&", "&^":
		return 5
	}
	return 0
}
