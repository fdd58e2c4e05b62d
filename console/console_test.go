package console_test

import (
	"strconv"
	"strings"
	"testing"

	"emend/api"
	"emend/console"
	"emend/driver"
	"emend/patch"
	"emend/quoted"
	"emend/render"
	"emend/report"
	"emend/rule"
	"emend/syntax"
	"emend/term"
	"emend/trials"
)

const doubled = "rule r expr\nhole x expr\nfind\nx + x\nwith\n2 * x\nend\n"

// talk does lines at one desk, and holds the answers against those that are wanted.
func talk(t *testing.T, l ...string) *console.Desk {
	t.Helper()
	d := console.New()
	for i := 0; i+1 < len(l); i += 2 {
		if got := d.Do(l[i]); got != l[i+1] {
			t.Errorf("Do(%.60q) = %.80q, want %.80q", l[i], got, l[i+1])
		}
	}
	return d
}

func TestP24_1Table(t *testing.T) {
	d := talk(t, "show", `""`, "term", "error 7 0", `text "a + a"`, "ok", "show", `"a + a"`, "term", `(37 "+" (26 "a") (26 "a"))`, "rules "+quoted.Quote(doubled), "ok 1", "find", `"1:1-1:6 r x=\"a\"\n"`, "flaws", `""`, "round", "made 1", "show", `"2 * a"`, "round", "nothing", "run 3", "fixed 0", "term", `(37 "*" (27 "2") (26 "a"))`,
		"goal stmts", "ok", "flaws", `"1:1-1:6 11\n"`, "format", "ok", "show", `"2 * a\n"`, "goal type", "ok", "term", "error 7 0", "format", "error 7 0", "flaws", "error 7 0", "find", "error 7 0", "round", "error 7 0", "run 5", "error 7 0", "goal file", "ok", `text "package p"`, "ok", "term", `(1 (26 "p") (2) (2))`, "goal expr", "ok", "term", "error 7 0")
	if d.Text() != "package p" {
		t.Errorf("Text = %q", d.Text())
	}
	loop, bad := "rule a expr\nfind\na\nwith\na\nend\n", "rule a expr\nfind\na\nwith\nb.c\nend\n"
	talk(t, "rules "+quoted.Quote(loop), "ok 1", `text "a"`, "ok", "run 0", "spent 0", "run 7", "spent 7", "run 1000", "spent 1000", "goal stmts", "ok", `text "x; goto a"`, "ok", "rules "+quoted.Quote(bad), "ok 1", "round", "refused 0", "run 4", "refused 0 0", "show", `"x; goto a"`, `text "a; goto a"`, "ok", "round", "refused 1", "run 4", "refused 0 1", "run 0", "spent 0", `text "a"`, "ok", "run 9", "fixed 1", "show", `"b.c"`)
	talk(t, `rules "rule"`, "error 16 1", `rules "rule if expr"`, "error 10 1", `text "a"`, "ok", "run 1", "fixed 0", "rules "+quoted.Quote(loop), "ok 1", `rules "rule r expr\n"`, "error 16 3", "run 1", "spent 1", `rules ""`, "ok 0", "run 1", "fixed 0", "find", `""`)
	long := strings.Repeat("a", api.MaxText+1)
	talk(t, "text "+quoted.Quote(long), "ok", "term", "error 2 0", "format", "error 2 0", "round", "error 2 0", "run 1", "error 2 0", "show", quoted.Quote(long), "rules "+quoted.Quote(long), "error 2 0")
	wide := strings.Repeat("a;", 32768)
	talk(t, "goal stmts", "ok", "text "+quoted.Quote(wide), "ok", "format", "ok", "text "+quoted.Quote("f(a,b)"+strings.Repeat("+f(a,b)", 9000)), "ok", "format", "error 2 0")
	talk(t, "rules "+quoted.Quote("rule a expr\nfind\na\nwith\n"+strings.Repeat("a+", 60)+"a\nend\n"), "ok 1", `text "a"`, "ok", "run 9", "error 2 0", "show", `"a"`, "goal stmts", "ok", `text "a )"`, "ok", "term", "error 5 2", "run 1", "error 5 2")
}

func TestP24_1Lines(t *testing.T) {
	for _, line := range []string{"", " ", "\t\r ", "//", " // a", "//text", "\r//\n"} {
		if got := console.New().Do(line); got != "" {
			t.Errorf("Do(%q) = %q", line, got)
		}
	}
	for _, line := range []string{
		"run 007", "run 00", "run -1", "run +1", "run 1001", "run", "run 1 2", "run x", "run 1.0", "run 99999999999999999999", "run 0x1", "run １", "goal", "goal Expr", "goal stmt", "goal expr x", "text", "text ", "text a", `text  "a"`, ` text "a"`, "text\t\"a\"", `text "a" `, `text "a" "b"`, "text `a`", "text 'a'", `text "a`, `text ""a`, "text \"a\nb\"", "rules", "rules a", ` rules ""`, `rules  ""`, "rules ``",
		"term x", "format x", "flaws 1", "find x", "round 1", "show x", "Show", "nothing", "help", "terms", "\v", "show\v", "é", "\xff", "\x00", "end", "/ /", "text\"a\"", `text "\q"`, "a\nb",
	} {
		d := console.New()
		d.Do(`text "kept"`)
		if got := d.Do(line); got != "error 16 0" || d.Text() != "kept" {
			t.Errorf("Do(%q) = %q, the text is %q", line, got, d.Text())
		}
	}
	talk(t, " goal\t expr\r", "ok", "\tshow ", `""`, `text "a"`, "ok", " run  \t0 ", "fixed 0", `text "\u20ac\xff\n\""`, "ok", "show", `"\xe2\x82\xac\xff\n\""`, "run 1000", "error 3 3", `text ""`, "ok", "show", `""`)
	var none *console.Desk
	for _, line := range []string{"", "//", "show", `text "a"`, "x"} {
		if got := none.Do(line); got != "error 15 0" {
			t.Errorf("Do(%q) of no desk = %q", line, got)
		}
	}
	if none.Text() != "" || console.New().Text() != "" {
		t.Error("a new desk, and none, have no text")
	}
	a, b := console.New(), console.New()
	a.Do(`text "x + x"`)
	a.Do("goal stmts")
	a.Do("rules " + quoted.Quote(doubled))
	if b.Do("show") != `""` || b.Do(`text "f(y)"`) != "ok" || b.Do("find") != `""` || b.Do("flaws") != `""` || a.Text() != "x + x" || a.Do("round") != "made 1" || b.Text() != "f(y)" {
		t.Error("two desks know of one another")
	}
}

func TestP24_2(t *testing.T) {
	script := "text \"a + a\"\nrules " + quoted.Quote(doubled) + "\nfind\nround\nshow\nrun 3\nterm\n"
	want := "ok\nok 1\n\"1:1-1:6 r x=\\\"a\\\"\\n\"\nmade 1\n\"2 * a\"\nfixed 0\n(37 \"*\" (27 \"2\") (26 \"a\"))\n"
	if got := console.Run(script); got != want {
		t.Errorf("Run = %q, want %q", got, want)
	}
	for s, want := range map[string]string{"": "", "\n\n// a\n": "", "show": "\"\"\n", "show\n\nshow": "\"\"\n\"\"\n", "\nx\r\n": "error 16 0\n", "show\r\n": "\"\"\n"} {
		if got := console.Run(s); got != want {
			t.Errorf("Run(%q) = %q, want %q", s, got, want)
		}
	}
}

// shadow is the document's desk.
type shadow struct {
	goal  uint8
	text  string
	rules []api.Rule
}

func fault(f api.Fault) string {
	return "error " + strconv.Itoa(int(f.Err)) + " " + strconv.Itoa(f.At)
}

// do answers a line of questions or of rounds, by the layers below.
func (s *shadow) do(line string) string {
	l, f := syntax.Term(s.goal, s.text)
	if f != (api.Fault{}) && line != "show" {
		return fault(f)
	}
	switch line {
	case "term":
		x, _ := term.Show(l)
		return x
	case "format":
		s.text, _ = render.Text(l)
		return "ok"
	case "flaws":
		x, _ := report.Flaws(s.goal, s.text)
		return quoted.Quote(x)
	case "find":
		x, _ := report.Matches(s.goal, s.text, s.rules)
		return quoted.Quote(x)
	case "round":
		r, _ := patch.Round(s.goal, s.text, s.rules)
		switch {
		case len(r.Picks) == 0:
			return "nothing"
		case r.Bad >= 0:
			return "refused " + strconv.Itoa(r.Bad)
		}
		s.text = r.Text
		return "made " + strconv.Itoa(len(r.Picks))
	case "run 3":
		r := driver.Run(s.goal, s.text, s.rules, 3)
		switch r.Status {
		case api.Refused:
			return "refused " + strconv.Itoa(r.Rounds) + " " + strconv.Itoa(r.Fault.At)
		case api.Fixed, api.Spent:
			s.text = r.Text
			return map[uint8]string{api.Fixed: "fixed ", api.Spent: "spent "}[r.Status] + strconv.Itoa(r.Rounds)
		}
		return fault(r.Fault)
	}
	return quoted.Quote(s.text)
}

// TestP24_3: long talks, held against the layers below, line by line and as scripts.
func TestP24_3(t *testing.T) {
	d := trials.New(24)
	files := []string{doubled, "rule a expr\nfind\na\nwith\nb.c\nend\n", "rule s stmt\nhole s stmts\nfind\n{ s }\nwith\ns\nend\nrule t expr\nhole x expr\nfind\n(x)\nwith\nx\nend\n", ""}
	for i := 0; i < 400; i++ {
		desk, s := console.New(), &shadow{goal: api.GExpr}
		var script, answers []string
		for range 12 {
			line, want := "", "ok"
			switch k := d.Roll(10); k {
			case 0:
				s.goal = uint8(1 + d.Roll(4))
				line = "goal " + []string{"type", "expr", "stmts", "file"}[s.goal-1]
			case 1, 2:
				s.text = trials.Text(uint8(1+d.Roll(4)), d, 2)
				line = "text " + quoted.Quote(s.text)
			case 3:
				file := files[d.Roll(4)]
				s.rules, _ = rule.Read(file)
				line, want = "rules "+quoted.Quote(file), "ok "+strconv.Itoa(len(s.rules))
			default:
				line = []string{"term", "flaws", "find", "show", "round", "run 3", "format"}[d.Roll(7)]
				want = s.do(line)
			}
			if got := desk.Do(line); got != want || desk.Text() != s.text {
				t.Fatalf("Do(%q) behind %q = %q, want %q; the text is %q", line, script, got, want, desk.Text())
			}
			for _, q := range []string{"term", "flaws", "find", "show", "// silent", ""} {
				desk.Do(q)
			}
			if desk.Text() != s.text {
				t.Fatalf("a question changed the text behind %q", script)
			}
			script, answers = append(script, line), append(answers, want+"\n")
		}
		if got := console.Run(strings.Join(script, "\n")); got != strings.Join(answers, "") {
			t.Fatalf("Run(%q) = %q, want %q", script, got, answers)
		}
		if got := console.Run(strings.Join(script, "\n \n// c\n") + "\n"); got != strings.Join(answers, "") {
			t.Fatalf("silent lines change what %q answers", script)
		}
	}
}
