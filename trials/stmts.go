package trials

func (m *maker) file(depth int) {
	m.put("package", "p", ";")
	for range m.d.Roll(2) {
		m.one(`import "a"`, `import . "b"`, `import ( c "d" ; "e" )`, "import ( )")
		m.put(";")
	}
	for range m.d.Roll(4) {
		if m.may(2) {
			m.decl(depth)
		} else {
			m.funcDecl(depth)
		}
		m.put(";")
	}
}

func (m *maker) funcDecl(depth int) {
	m.put("func")
	if m.may(3) {
		m.put("(", "x")
		m.typ(depth)
		m.put(")")
	}
	m.name()
	if m.may(4) {
		m.one("[ K any ]", "[ K , V ~ int | T ]", "[ K any , V [ ] K ]")
	}
	m.signature(depth)
	if !m.may(5) {
		m.block(depth)
	}
}

func (m *maker) decl(depth int) {
	switch m.d.Roll(6) {
	case 0:
		m.put("type")
		m.name()
		m.one("", "=", "[ K any ]", "[ K , V ~ int ] =")
		m.typ(depth)
	case 1:
		m.put("const")
		m.name()
		m.one("=", "int =")
		m.expr(depth)
	case 2:
		m.put("const (", "a", "=")
		m.expr(depth)
		m.one("; b )", "; b ; )", ")")
	case 3:
		m.put("var")
		m.name()
		m.typ(depth)
	default:
		m.put("var")
		m.name()
		m.put("=")
		m.expr(depth)
	}
}

func (m *maker) stmts(depth int) {
	for range m.d.Roll(4) {
		m.stmt(depth)
		m.put(";")
		if m.may(6) {
			m.put(";")
		}
	}
}

func (m *maker) block(depth int) {
	m.within("{", "}", func() { m.stmts(depth - 1) })
}

func (m *maker) simple(depth int) {
	switch m.d.Roll(6) {
	case 0:
		m.expr(depth)
		m.one("++", "--")
	case 1:
		m.expr(depth)
		m.put("<-")
		m.expr(depth)
	case 2:
		m.few(1, ",", depth, m.expr)
		m.one("=", ":=", "+=", "&^=", "<<=")
		m.few(1, ",", depth, m.expr)
	default:
		m.expr(depth)
	}
}

func (m *maker) stmt(depth int) {
	if depth <= 0 {
		m.simple(0)
		return
	}
	depth--
	switch m.d.Roll(13) {
	case 0:
		m.decl(depth)
	case 1:
		m.one("go", "defer")
		m.expr(depth)
	case 2:
		m.put("return")
		m.few(0, ",", depth, m.expr)
	case 3:
		m.one("break", "continue", "goto a", "fallthrough", "break b", "a :")
	case 4:
		m.block(depth)
	case 5:
		m.ifStmt(depth)
	case 6:
		m.switchStmt(depth)
	case 7:
		m.selectStmt(depth)
	case 8:
		m.forStmt(depth)
	case 9:
		m.put("b", ":")
		m.stmt(depth)
	default:
		m.simple(depth)
	}
}

// heads puts what stands in a head.
func (m *maker) heads(put func()) {
	m.head = true
	put()
	m.head = false
}

func (m *maker) ifStmt(depth int) {
	m.put("if")
	m.heads(func() {
		if m.may(3) {
			m.simple(depth)
			m.put(";")
		}
		m.expr(depth)
	})
	m.block(depth)
	switch m.d.Roll(4) {
	case 0:
		m.put("else")
		m.block(depth)
	case 1:
		m.put("else")
		m.ifStmt(depth - 1)
	}
}

func (m *maker) switchStmt(depth int) {
	m.put("switch")
	typed := m.may(3)
	m.heads(func() {
		if m.may(3) {
			m.simple(depth)
			m.put(";")
		}
		switch {
		case typed:
			m.one("", "x :=")
			m.name()
			m.put(". ( type )")
		case m.may(2):
			m.expr(depth)
		}
	})
	m.put("{")
	for range m.d.Roll(3) {
		m.put("case")
		if typed {
			m.few(1, ",", depth, m.typ)
		} else {
			m.few(1, ",", depth, m.expr)
		}
		m.put(":")
		m.stmts(depth)
	}
	if m.may(3) {
		m.put("default", ":")
		m.stmts(depth)
	}
	m.put("}")
}

func (m *maker) selectStmt(depth int) {
	m.put("select", "{")
	for range m.d.Roll(3) {
		m.one("case", "case", "default :")
		if m.words[len(m.words)-1] == "case" {
			m.simple(depth)
			m.put(":")
		}
		m.stmts(depth)
	}
	m.put("}")
}

func (m *maker) forStmt(depth int) {
	m.put("for")
	m.heads(func() {
		switch m.d.Roll(5) {
		case 0:
			m.expr(depth)
		case 1:
			m.one("range", "a = range", "a , b := range")
			m.expr(depth)
		case 2:
			m.simple(depth)
			m.put(";")
			m.expr(depth)
			m.put(";")
			m.simple(depth)
		case 3:
			m.put(";", ";")
		}
	})
	m.block(depth)
}
