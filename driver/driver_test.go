package driver_test

import (
	"strings"
	"testing"

	"emend/api"
	"emend/driver"
	"emend/find"
	"emend/patch"
	"emend/rule"
	"emend/syntax"
	"emend/trials"
)

func read(t *testing.T, s string) []api.Rule {
	t.Helper()
	l, f := rule.Read(s)
	if f != (api.Fault{}) {
		t.Fatalf("Read(%q) = %v", s, f)
	}
	return l
}

func result(status uint8, text string, rounds int, err api.Errno, at int) api.Result {
	return api.Result{Status: status, Text: text, Rounds: rounds, Fault: api.Fault{Err: err, At: at}}
}

func TestP22_1(t *testing.T) {
	const sum, loop, doubled = "expr|x expr,y expr|x + y|f(x, y)", "expr||a|a", "expr|x expr|f(x)|f(f(x, x))"
	long := strings.Repeat("a", api.MaxText+1)
	grow := "expr||a|" + strings.Repeat("a+", 50) + "a"
	for _, c := range []struct {
		goal  uint8
		s     string
		rules string
		fuel  int
		want  api.Result
	}{
		{api.GExpr, "a + b + c", sum, 9, result(api.Fixed, "f(f(a, b), c)", 2, 0, 0)}, {api.GExpr, "a + b + c", sum, 2, result(api.Fixed, "f(f(a, b), c)", 2, 0, 0)}, {api.GExpr, "a + b + c", sum, 1, result(api.Spent, "f(a + b, c)", 1, 0, 0)}, {api.GExpr, "a + b + c", sum, 0, result(api.Spent, "a + b + c", 0, 0, 0)}, {api.GExpr, "a  *  c", sum, 0, result(api.Fixed, "a  *  c", 0, 0, 0)}, {api.GExpr, "a", loop, 3, result(api.Spent, "a", 3, 0, 0)}, {api.GExpr, "a", loop, api.MaxFuel, result(api.Spent, "a", api.MaxFuel, 0, 0)},
		{api.GStmts, "goto a", "expr||a|b.c", 1, result(api.Refused, "goto a", 0, api.ErrFit, 0)}, {api.GStmts, "goto a", "expr||a|b.c", 0, result(api.Spent, "goto a", 0, 0, 0)}, {api.GStmts, "a; goto a", "expr||a|b.c", 5, result(api.Refused, "a; goto a", 0, api.ErrFit, 1)}, {api.GStmts, "x; goto x", "expr||x|y", 5, result(api.Fixed, "y; goto y", 1, 0, 0)},
		{api.GExpr, "a", loop, -1, result(api.Faulty, "a", 0, api.ErrArg, 0)}, {api.GExpr, "a", loop, api.MaxFuel + 1, result(api.Faulty, "a", 0, api.ErrArg, 0)}, {api.GExpr, long, loop, -1, result(api.Faulty, long, 0, api.ErrArg, 0)}, {api.GExpr, long, loop, 0, result(api.Long, long, 0, api.ErrLong, 0)}, {api.GExpr, "a b", loop, 9, result(api.Faulty, "a b", 0, api.ErrSyntax, 2)}, {api.GExpr, "a )", loop, 0, result(api.Faulty, "a )", 0, api.ErrNest, 2)}, {9, "a", loop, 1, result(api.Faulty, "a", 0, api.ErrArg, 0)},
		{api.GExpr, "a", grow, 9, result(api.Long, "a", 2, api.ErrLong, 0)}, {api.GExpr, "a", grow, 2, result(api.Long, "a", 2, api.ErrLong, 0)}, {api.GExpr, "f(a)", doubled, 3, result(api.Spent, "f(f(a, a))", 3, 0, 0)},
	} {
		if c.rules == doubled {
			c.want.Text = driver.Run(c.goal, c.s, read(t, trials.Rules(c.rules)), 3).Text
		}
		got := driver.Run(c.goal, c.s, read(t, trials.Rules(c.rules)), c.fuel)
		if got != c.want {
			t.Errorf("Run(%.20q, %.40q, %d) = %d, %.40q, %d, %v; want %d, %.40q, %d, %v", c.s, c.rules, c.fuel, got.Status, got.Text, got.Rounds, got.Fault, c.want.Status, c.want.Text, c.want.Rounds, c.want.Fault)
		}
		if again := driver.File(c.goal, c.s, trials.Rules(c.rules), c.fuel); again != got {
			t.Errorf("File(%.20q, %.40q, %d) = %d, %.40q, %d, %v", c.s, c.rules, c.fuel, again.Status, again.Text, again.Rounds, again.Fault)
		}
	}
	// Two rounds on, the second one is refused: the first text is answered.
	two := trials.Rules("expr||a|b", "expr||b|c.d")
	if got := driver.Run(api.GStmts, "goto  a", read(t, two), 5); got != result(api.Refused, "goto  a", 1, api.ErrFit, 0) {
		t.Errorf("a run that is refused in its second round: %v", got)
	}
	if got := driver.Run(api.GExpr, "a", make([]api.Rule, 33), 5); got != result(api.Faulty, "a", 0, api.ErrMany, 0) {
		t.Errorf("a run of too many rules: %v", got)
	}
	for s, want := range map[string]api.Fault{"rule": {Err: api.ErrLine, At: 1}, "rule if expr": {Err: api.ErrRule, At: 1}, "rule r expr\n": {Err: api.ErrLine, At: 3}, long + "\n": {Err: api.ErrLong}} {
		if got := driver.File(api.GExpr, "a b", s, -1); got != result(api.Faulty, "a b", 0, want.Err, want.At) {
			t.Errorf("File with %.20q = %v", s, got)
		}
	}
	if got := driver.File(api.GExpr, "a", "// none\n", 1); got != result(api.Fixed, "a", 0, 0, 0) {
		t.Errorf("File without rules = %v", got)
	}
}

// run is the document's run, round by round.
func run(goal uint8, s string, rules []api.Rule, fuel int) api.Result {
	text, k := s, 0
	for {
		r, f := patch.Round(goal, text, rules)
		if f.Err == api.ErrLong {
			return api.Result{Status: api.Long, Text: s, Rounds: k, Fault: f}
		}
		if f != (api.Fault{}) {
			return api.Result{Status: api.Faulty, Text: s, Rounds: k, Fault: f}
		}
		if len(r.Picks) == 0 {
			return api.Result{Status: api.Fixed, Text: text, Rounds: k}
		}
		if k == fuel {
			return api.Result{Status: api.Spent, Text: text, Rounds: k}
		}
		if r.Bad != -1 {
			return api.Result{Status: api.Refused, Text: s, Rounds: k, Fault: api.Fault{Err: api.ErrFit, At: r.Bad}}
		}
		text, k = r.Text, k+1
	}
}

// TestP22_2 (and P8): runs with more fuel and less, and again over what they left.
func TestP22_2(t *testing.T) {
	d := trials.New(22)
	all := []string{"expr|x expr,y expr|x + y|f(x, y)", "expr||a|b", "stmt|ss stmts|{ss}|ss", "expr|x expr|-x|x", "expr|x expr|(x)|x", "stmt|x expr|x|_ = x", "expr|x expr|x.f|x", "type|t type|[]t|t", "expr||x|b.c", "stmt|s stmt|b: s|s", "stmt|c expr,ss stmts|if c {ss}|for c {ss; break}", "expr||f|f"}
	ends := map[uint8]int{}
	for i := 0; i < 1500; i++ {
		goal := uint8(1 + i%4)
		s := trials.Text(goal, d, 3)
		from := d.Roll(len(all))
		rules := read(t, trials.Rules(all[from:min(len(all), from+1+d.Roll(3))]...))
		fuel := d.Roll(12)
		got := driver.Run(goal, s, rules, fuel)
		if want := run(goal, s, rules, fuel); got != want {
			t.Fatalf("Run(%q, %d) = %v, want %v", s, fuel, got, want)
		}
		ends[got.Status]++
		l, _ := syntax.Term(goal, got.Text)
		found, _ := find.All(rules, l)
		switch got.Status {
		case api.Fixed:
			again := driver.Run(goal, got.Text, rules, d.Roll(3))
			if len(found) > 0 || again != result(api.Fixed, got.Text, 0, 0, 0) {
				t.Fatalf("Run over what %q became: %v, %v", s, again, found)
			}
			for f := range fuel + 2 {
				if x := driver.Run(goal, s, rules, f); f >= got.Rounds && x != got || f < got.Rounds && x.Status != api.Spent {
					t.Fatalf("Run(%q, %d) = %v, with fuel %d %v", s, fuel, got, f, x)
				}
			}
		case api.Spent:
			if less := driver.Run(goal, s, rules, fuel/2); len(found) == 0 || less.Status != api.Spent {
				t.Fatalf("Run(%q, %d) = %v, %v", s, fuel, got, less)
			}
		default:
			if got.Text != s {
				t.Fatalf("Run(%q, %d) = %v", s, fuel, got)
			}
		}
	}
	if ends[api.Fixed] < 200 || ends[api.Spent] < 100 || ends[api.Refused] < 20 {
		t.Errorf("runs ended %v", ends)
	}
}
