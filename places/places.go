// Package places tells where the parts of a text that was read have their bytes.
package places

import "emend/api"

// Of is a function that tells from where up to where the bytes of a part stand; of a part
// without tokens twice the place at which it stands.
func Of(s string, p api.Parsed) func(part int) (int, int) {
	return func(part int) (int, int) {
		n := p.Nodes[part]
		from := len(s)
		if n.From < len(p.Tokens) {
			from = p.Tokens[n.From].From
		}
		if n.From == n.To {
			return from, from
		}
		return from, p.Tokens[n.To-1].To
	}
}
