package trials

func (m *maker) expr(depth int) {
	if depth <= 0 {
		m.simplest()
		return
	}
	depth--
	switch m.d.Roll(9) {
	case 0, 1, 2:
		m.expr(depth)
		m.one("||", "&&", "==", "!=", "<", "<=", ">", ">=", "+", "-", "|", "^", "*", "/", "%", "<<", ">>", "&", "&^")
		m.expr(depth)
	case 3:
		m.one("+", "-", "!", "^", "&", "<-", "*")
		m.expr(depth)
	case 4:
		m.composite(depth)
	case 5:
		m.function(depth)
	default:
		m.suffix(depth)
	}
}

func (m *maker) simplest() {
	if m.may(3) {
		m.one("1", "2.5", "3i", "'c'", `"s"`, "`r`", "0x1f")
		return
	}
	m.name()
}

// operand puts what may have a suffix.
func (m *maker) operand(depth int) {
	switch m.d.Roll(4) {
	case 0:
		m.within("(", ")", func() { m.expr(depth) })
	case 1:
		m.suffix(depth - 1)
	default:
		m.simplest()
	}
}

func (m *maker) suffix(depth int) {
	m.operand(depth)
	if depth < 0 {
		return
	}
	switch m.d.Roll(6) {
	case 0:
		m.put(".")
		m.name()
	case 1:
		m.within(". (", ")", func() { m.typ(depth) })
	case 2:
		m.within("[", "]", func() { m.few(1, ",", depth, m.expr) })
	case 3:
		m.within("[", "]", func() { m.slice(depth) })
	default:
		m.within("(", ")", func() { m.args(depth) })
	}
}

func (m *maker) args(depth int) {
	m.few(0, ",", depth, m.expr)
	if m.may(6) && m.words[len(m.words)-1] != "(" {
		m.put("...")
	}
	if m.may(6) && m.words[len(m.words)-1] != "(" {
		m.put(",")
	}
}

func (m *maker) slice(depth int) {
	if m.may(2) {
		m.expr(depth)
	}
	m.put(":")
	if !m.may(2) {
		return
	}
	m.expr(depth)
	if m.may(2) {
		m.put(":")
		m.expr(depth)
	}
}

func (m *maker) composite(depth int) {
	switch m.d.Roll(4) {
	case 0:
		m.put("[", "]")
		m.name()
	case 1:
		m.put("[", "...", "]")
		m.name()
	case 2:
		m.put("map", "[")
		m.typ(depth)
		m.put("]")
		m.name()
	default:
		m.name()
		if m.head {
			return
		}
	}
	m.within("{", "}", func() { m.few(0, ",", depth, m.element) })
}

func (m *maker) element(depth int) {
	if m.may(3) {
		m.value(depth)
		m.put(":")
	}
	m.value(depth)
}

func (m *maker) value(depth int) {
	if depth > 0 && m.may(4) {
		m.within("{", "}", func() { m.few(0, ",", depth-1, m.element) })
		return
	}
	m.expr(depth)
}

func (m *maker) function(depth int) {
	m.put("func")
	m.signature(depth)
	m.block(depth)
}
