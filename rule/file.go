package rule

import (
	"slices"
	"strings"

	"emend/api"
	"emend/class"
	"emend/lines"
	"emend/syntax"
)

// Read reads a file of rules.
func Read(s string) ([]api.Rule, api.Fault) {
	if len(s) > api.MaxText {
		return nil, api.Fault{Err: api.ErrLong}
	}
	f := &file{}
	f.step = f.outside
	starts := append(lines.Starts(s), len(s)+1)
	for n := 1; n < len(starts); n++ {
		if fault := f.step(n, s[starts[n-1]:starts[n]-1]); fault != (api.Fault{}) {
			return nil, fault
		}
	}
	if f.open {
		return nil, api.Fault{Err: api.ErrLine, At: len(starts)}
	}
	return f.rules, api.Fault{}
}

// file is a file of rules that is read line by line.
type file struct {
	step  func(n int, line string) api.Fault // what is done with the next line
	open  bool                               // a rule isn't ended
	rules []api.Rule
	rule  api.Rule
	began int // the line with the word ahead of the text
	text  strings.Builder
}

// silent tells whether words of a line say nothing.
func silent(w []string) bool {
	return len(w) == 0 || strings.HasPrefix(w[0], "//")
}

// outside reads a line that stands in no rule.
func (f *file) outside(n int, line string) api.Fault {
	w := words(line)
	if silent(w) {
		return api.Fault{}
	}
	if len(w) != 3 || w[0] != "rule" || goal(w[2]) == 0 {
		return api.Fault{Err: api.ErrLine, At: n}
	}
	if len(f.rules) >= api.MaxRules {
		return api.Fault{Err: api.ErrMany, At: n}
	}
	ahead := slices.ContainsFunc(f.rules, func(r api.Rule) bool { return r.Name == w[1] })
	if ahead || !class.Name(w[1]) {
		return api.Fault{Err: api.ErrRule, At: n}
	}
	f.rule = api.Rule{Name: w[1], Goal: goal(w[2])}
	f.open = true
	f.step = f.holes
	return api.Fault{}
}

// holes reads a line that stands ahead of what is sought.
func (f *file) holes(n int, line string) api.Fault {
	w := words(line)
	switch {
	case silent(w):
		return api.Fault{}
	case len(w) == 1 && w[0] == "find":
		f.began = n
		f.step = f.find
		return api.Fault{}
	case len(w) != 3 || w[0] != "hole" || kind(w[2]) == 0:
		return api.Fault{Err: api.ErrLine, At: n}
	case len(f.rule.Holes) >= api.MaxHoles:
		return api.Fault{Err: api.ErrMany, At: n}
	}
	ahead := slices.ContainsFunc(f.rule.Holes, func(h api.Hole) bool { return h.Name == w[1] })
	if ahead || !class.Name(w[1]) {
		return api.Fault{Err: api.ErrHole, At: n}
	}
	f.rule.Holes = append(f.rule.Holes, api.Hole{Name: w[1], Kind: kind(w[2])})
	return api.Fault{}
}

// find reads a line of what is sought.
func (f *file) find(n int, line string) api.Fault {
	if !isWord(line, "with") {
		f.keep(line)
		return api.Fault{}
	}
	l, ok := f.term()
	if ok && f.rule.Goal == api.GStmts {
		ok = l[0].Kids == 1
		l = slices.Clone(l[1:])
	}
	if !ok {
		return api.Fault{Err: api.ErrRule, At: f.began}
	}
	f.rule.Find = l
	f.began = n
	f.step = f.with
	return api.Fault{}
}

// with reads a line of what is put.
func (f *file) with(n int, line string) api.Fault {
	if !isWord(line, "end") {
		f.keep(line)
		return api.Fault{}
	}
	l, ok := f.term()
	if !ok {
		return api.Fault{Err: api.ErrRule, At: f.began}
	}
	f.rule.By = l
	if e := Check(f.rule); e != api.OK {
		return api.Fault{Err: e, At: n}
	}
	f.rules = append(f.rules, f.rule)
	f.open = false
	f.step = f.outside
	return api.Fault{}
}

// keep puts a line behind the text.
func (f *file) keep(line string) {
	f.text.WriteString(line)
	f.text.WriteByte('\n')
}

// term is the text's term, if it has one; the next text is empty.
func (f *file) term() ([]api.Part, bool) {
	s := f.text.String()
	f.text.Reset()
	l, fault := syntax.Term(f.rule.Goal, s)
	return l, fault == (api.Fault{})
}

// goal is the goal that a word says, 0, if it says none.
func goal(word string) uint8 {
	for g := api.GType; g <= api.GStmts; g++ {
		if goalWord(g) == word {
			return g
		}
	}
	return 0
}

// goalWord is the word of a goal.
func goalWord(goal uint8) string {
	switch goal {
	case api.GType:
		return "type"
	case api.GExpr:
		return "expr"
	}
	return "stmt"
}

// kind is the kind of holes that a word says, 0, if it says none.
func kind(word string) uint8 {
	for k := api.HExpr; k <= api.HStmts; k++ {
		if kindWord(k) == word {
			return k
		}
	}
	return 0
}

// kindWord is the word of a kind of holes.
func kindWord(kind uint8) string {
	switch kind {
	case api.HExpr:
		return "expr"
	case api.HIdent:
		return "ident"
	case api.HLit:
		return "lit"
	case api.HType:
		return "type"
	case api.HStmt:
		return "stmt"
	case api.HExprs:
		return "exprs"
	}
	return "stmts"
}
