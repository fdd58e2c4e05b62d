package console

import (
	"strconv"

	"emend/api"
	"emend/driver"
	"emend/patch"
	"emend/quoted"
	"emend/render"
	"emend/report"
	"emend/rule"
	"emend/syntax"
	"emend/term"
)

// aim is the goal: expressions, as long as no other one was told.
func (d *Desk) aim() uint8 {
	if d.goal == 0 {
		return api.GExpr
	}
	return d.goal
}

func (d *Desk) doGoal(word string) string {
	switch word {
	case "type":
		d.goal = api.GType
	case "expr":
		d.goal = api.GExpr
	case "stmts":
		d.goal = api.GStmts
	case "file":
		d.goal = api.GFile
	default:
		return failed(api.ErrLine, 0)
	}
	return "ok"
}

func (d *Desk) doText(says string) string {
	d.text = says
	return "ok"
}

func (d *Desk) doRules(says string) string {
	l, fault := rule.Read(says)
	if fault != (api.Fault{}) {
		return failed(fault.Err, fault.At)
	}
	d.rules = l
	return counted("ok", len(l))
}

func (d *Desk) doTerm() string {
	l, fault := syntax.Term(d.aim(), d.text)
	if fault != (api.Fault{}) {
		return failed(fault.Err, fault.At)
	}
	s, e := term.Show(l)
	if e != api.OK {
		return failed(api.ErrLong, 0)
	}
	return s
}

func (d *Desk) doFormat() string {
	l, fault := syntax.Term(d.aim(), d.text)
	if fault != (api.Fault{}) {
		return failed(fault.Err, fault.At)
	}
	s, e := render.Text(l)
	if e != api.OK {
		return failed(api.ErrLong, 0)
	}
	d.text = s
	return "ok"
}

func (d *Desk) doFlaws() string {
	s, fault := report.Flaws(d.aim(), d.text)
	if fault != (api.Fault{}) {
		return failed(fault.Err, fault.At)
	}
	return quoted.Quote(s)
}

func (d *Desk) doFind() string {
	s, fault := report.Matches(d.aim(), d.text, d.rules)
	if fault != (api.Fault{}) {
		return failed(fault.Err, fault.At)
	}
	return quoted.Quote(s)
}

func (d *Desk) doRound() string {
	r, fault := patch.Round(d.aim(), d.text, d.rules)
	switch {
	case fault != (api.Fault{}):
		return failed(fault.Err, fault.At)
	case len(r.Picks) == 0:
		return "nothing"
	case r.Bad != -1:
		return counted("refused", r.Bad)
	}
	d.text = r.Text
	return counted("made", len(r.Picks))
}

func (d *Desk) doRun(word string) string {
	fuel, ok := number(word)
	if !ok {
		return failed(api.ErrLine, 0)
	}
	r := driver.Run(d.aim(), d.text, d.rules, fuel)
	switch r.Status {
	case api.Fixed:
		d.text = r.Text
		return counted("fixed", r.Rounds)
	case api.Spent:
		d.text = r.Text
		return counted("spent", r.Rounds)
	case api.Refused:
		return counted(counted("refused", r.Rounds), r.Fault.At)
	}
	return failed(r.Fault.Err, r.Fault.At)
}

func (d *Desk) doShow() string {
	return quoted.Quote(d.text)
}

// number is the number that a word says, if it says one that may be.
func number(word string) (int, bool) {
	n, err := strconv.Atoi(word)
	return n, err == nil && n >= 0 && n <= api.MaxFuel && strconv.Itoa(n) == word
}
