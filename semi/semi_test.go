package semi_test

import (
	"math/rand"
	"strings"
	"testing"

	"emend/api"
	"emend/semi"
)

func TestP8_1Ends(t *testing.T) {
	words := strings.Fields("break case chan const continue default defer else fallthrough for func go goto if import interface map package range return select struct switch type var")
	signs := strings.Fields("+ - * / % & | ^ << >> &^ += -= *= /= %= &= |= ^= <<= >>= &^= && || <- ++ -- == < > = ! ~ != <= >= := ... ( ) [ ] { } , . :")
	enders := map[string]int{"break": 1, "continue": 1, "fallthrough": 1, "return": 1, "++": 2, "--": 2, ")": 2, "]": 2, "}": 2}
	for kind := 0; kind < 256; kind++ {
		for _, x := range append(append([]string{"", "a", "breaks", "+ +"}, words...), signs...) {
			want := false
			switch uint8(kind) {
			case api.TName, api.TInt, api.TFloat, api.TImag, api.TRune, api.TString:
				want = true
			case api.TWord:
				want = enders[x] == 1
			case api.TOp:
				want = enders[x] == 2
			}
			if got := semi.Ends(uint8(kind), x); got != want {
				t.Errorf("Ends(%d, %q) = %v", kind, x, got)
			}
		}
	}
}

// show tells tokens by texts, of a TSemi without bytes ;AT.
func show(s string, l []api.Token) string {
	var out []string
	for _, t := range l {
		x := s[t.From:t.To]
		if t.Kind == api.TSemi && t.From == t.To {
			x = ";" + string(rune('0'+t.From))
		}
		out = append(out, x)
	}
	return strings.Join(out, " ")
}

func TestP8_1Of(t *testing.T) {
	for s, want := range map[string]string{
		"a\nb": "a ;1 b ;3", "a +\nb;": "a + b ;", "return /* \n */ x": "return ;6 x ;@", "}": "} ;1", "if x": "if x ;4", "": "", "\n\n": "", "a": "a ;1", "a//c": "a ;1", "a//c\nb;": "a ;1 b ;", "a /*c*/ b;": "a b ;",
		"a\n\n\nb;": "a ;1 b ;", "a;\n": "a ;", "a\n;": "a ;1 ;", "/*\n*/a;": "a ;", "go\nf()\n": "go f ( ) ;6", "x++\n": "x ++ ;3", "x--": "x -- ;3", "a[1]\n": "a [ 1 ] ;4", "{\n}": "{ } ;3", "'a'\n`b`\n": "'a' ;3 `b` ;7", "1\n.5\n2i": "1 ;1 .5 ;4 2i ;7",
		"break": "break ;5", "fallthrough\n;": "fallthrough ;; ;", "a,\n": "a ,", "\ufeffa": "a ;4", "a/**/": "a ;1", "a/*\n*//*\n*/b;": "a ;1 b ;", "`\n`+a;": "`\n` + a ;",
	} {
		if l, f := semi.Of(s); f != (api.Fault{}) || show(s, l) != want {
			t.Errorf("Of(%q) = %s, %v; want %s", s, show(s, l), f, want)
		}
	}
	for s, want := range map[string]api.Fault{"a 1x": {Err: api.ErrToken, At: 2}, "a\xff": {Err: api.ErrChar, At: 1}, strings.Repeat(" ", api.MaxText+1): {Err: api.ErrLong}, "a\x00#": {Err: api.ErrChar, At: 1}} {
		if l, f := semi.Of(s); f != want || len(l) != 0 {
			t.Errorf("Of(%.10q) = %v", s, f)
		}
	}
}

// words tells tokens by kinds and texts, the text of a TSemi being ;.
func words(s string) string {
	l, f := semi.Of(s)
	if f != (api.Fault{}) {
		return "fault"
	}
	var out []string
	for _, t := range l {
		x := s[t.From:t.To]
		if t.Kind == api.TSemi {
			x = ";"
		}
		out = append(out, string(rune('a'+t.Kind))+x)
	}
	return strings.Join(out, "\x00")
}

func TestP8_2(t *testing.T) {
	r := rand.New(rand.NewSource(8))
	pieces := []string{"a", "if", "return", "1", "'b'", "`\n`", "+", "++", ")", "(", "}", ";", ",", "break", "go"}
	gaps := []string{" ", "\n", "/*c*/", "/*\n*/", "//d\n", " \t", "/**/\n", "//e\n//f\n"}
	for i := 0; i < 20000; i++ {
		var s, plain, apart string
		for n := r.Intn(7); n >= 0; n-- {
			p, g := pieces[r.Intn(len(pieces))], gaps[r.Intn(len(gaps))]
			s += p + g
			plain += p + map[bool]string{false: " ", true: "\n"}[strings.Contains(g, "\n")]
		}
		want := words(s)
		if words(plain) != want {
			t.Fatalf("%q and %q have other tokens", s, plain)
		}
		l, _ := semi.Of(s)
		for _, x := range l {
			if x.Kind == api.TSemi {
				apart += " ;"
			} else {
				apart += " " + s[x.From:x.To]
			}
		}
		if words(apart) != want {
			t.Fatalf("%q and %q have other tokens", s, apart)
		}
	}
}
