// Package trials makes texts in the syntax of layer 12, for tests: the same ones each
// time, from a row of numbers that hangs on nothing but its beginning.
package trials

import (
	"strings"

	"emend/api"
)

// Dice is a row of numbers.
type Dice struct{ state uint64 }

// New is the row that begins with a number.
func New(first uint64) *Dice {
	return &Dice{state: first*2654435769 + 1}
}

// Roll is the next number, from 0 up to n.
func (d *Dice) Roll(n int) int {
	d.state = d.state*6364136223846793005 + 1442695040888963407
	return int(d.state>>33) % n
}

// Text is a text of a goal, its tokens with a blank between any two.
func Text(goal uint8, d *Dice, depth int) string {
	m := &maker{d: d}
	switch goal {
	case api.GType:
		m.typ(depth)
	case api.GExpr:
		m.expr(depth)
	case api.GStmts:
		m.stmts(depth)
	default:
		m.file(depth)
	}
	return strings.Join(m.words, " ")
}

// maker puts tokens behind one another.
type maker struct {
	d     *Dice
	words []string
	head  bool // elements behind a name would be read as a block
}

func (m *maker) put(words ...string) {
	m.words = append(m.words, words...)
}

// one puts one of some.
func (m *maker) one(some ...string) {
	m.put(some[m.d.Roll(len(some))])
}

// may tells yes once in n times.
func (m *maker) may(n int) bool {
	return m.d.Roll(n) == 0
}

func (m *maker) name() {
	m.one("a", "b", "c", "f", "x", "y", "αβ", "T", "int")
}

// few puts some, from so many on, with a sign between any two.
func (m *maker) few(least int, sign string, depth int, put func(int)) {
	n := least + m.d.Roll(3)
	for i := range n {
		if i > 0 {
			m.put(sign)
		}
		put(depth)
	}
}

// within puts what stands in brackets, where no head is.
func (m *maker) within(open, closing string, put func()) {
	head := m.head
	m.head = false
	m.put(open)
	put()
	m.put(closing)
	m.head = head
}

func (m *maker) typ(depth int) {
	if depth <= 0 {
		m.name()
		return
	}
	depth--
	switch m.d.Roll(11) {
	case 0:
		m.put("*")
		m.typ(depth)
	case 1:
		m.within("(", ")", func() { m.typ(depth) })
	case 2:
		m.put("[", "]")
		m.typ(depth)
	case 3:
		m.within("[", "]", func() { m.expr(depth) })
		m.typ(depth)
	case 4:
		m.put("map", "[")
		m.typ(depth)
		m.put("]")
		m.typ(depth)
	case 5:
		m.chanType(depth)
	case 6:
		m.put("func")
		m.signature(depth)
	case 7:
		m.within("struct {", "}", func() { m.few(0, ";", depth, m.field) })
	case 8:
		m.within("interface {", "}", func() { m.few(0, ";", depth, m.elem) })
	default:
		m.named(depth)
	}
}

func (m *maker) chanType(depth int) {
	switch m.d.Roll(3) {
	case 0:
		m.put("chan")
	case 1:
		m.put("chan", "<-")
	case 2:
		m.put("<-", "chan")
	}
	m.name()
}

func (m *maker) named(depth int) {
	m.name()
	if m.may(3) {
		m.put(".")
		m.name()
	}
	if m.may(3) {
		m.put("[")
		m.few(1, ",", depth, m.typ)
		m.put("]")
	}
}

func (m *maker) field(depth int) {
	switch m.d.Roll(4) {
	case 0:
		m.put("*")
		m.named(depth)
	case 1:
		m.named(depth)
	default:
		m.few(1, ",", depth, func(int) { m.name() })
		m.put("[", "]")
		m.typ(depth)
	}
	if m.may(3) {
		m.one(`"tag"`, "`raw`")
	}
}

func (m *maker) elem(depth int) {
	if m.may(2) {
		m.name()
		m.signature(depth)
		return
	}
	m.few(1, "|", depth, m.unionTerm)
}

func (m *maker) unionTerm(depth int) {
	if m.may(2) {
		m.put("~")
	}
	m.named(depth)
}

func (m *maker) signature(depth int) {
	m.within("(", ")", func() { m.few(0, ",", depth, m.param) })
	switch m.d.Roll(3) {
	case 0:
		m.name()
	case 1:
		m.within("(", ")", func() { m.few(0, ",", depth, m.typ) })
	}
}

func (m *maker) param(depth int) {
	switch m.d.Roll(4) {
	case 0:
		m.put("a", "...")
	case 1:
		m.put("...")
	case 2:
		m.name()
	}
	m.typ(depth)
}
