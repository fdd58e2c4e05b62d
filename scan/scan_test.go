package scan_test

import (
	"math"
	"math/rand"
	"strings"
	"testing"

	"emend/api"
	"emend/scan"
)

var signs = strings.Fields("+ - * / % & | ^ << >> &^ += -= *= /= %= &= |= ^= <<= >>= &^= && || <- ++ -- == < > = ! ~ != <= >= := ... ( ) [ ] { } , . :")

// show tells lexemes as their kinds and texts.
func show(s string, l []api.Token) string {
	kinds := []string{"?", "name", "word", "int", "float", "imag", "rune", "string", "op", "semi", "blank", "line", "block"}
	var out []string
	for _, t := range l {
		out = append(out, kinds[t.Kind]+"<"+s[t.From:t.To]+">")
	}
	return strings.Join(out, " ")
}

func TestP7_1Clean(t *testing.T) {
	for s, want := range map[string]int{
		"": -1, "abc": -1, "\ufeff": -1, "\ufeffa": -1, "a\ufeff": 1, "\ufeff\ufeff": 3, "a\x00": 1, "\x00": 0, "\xff": 0, "a\xc3": 1, "é\x80": 2, "a\x00\xff": 1, "a\xff\x00": 1, "\ufffd": -1, "a\xed\xa0\x80": 1, "ab\ufeff\xff": 2, "\x01\x7f": -1, "\xff\x00": 0, "\xff\ufeff": 0,
	} {
		if got := scan.Clean(s); got != want {
			t.Errorf("Clean(%q) = %d, want %d", s, got, want)
		}
	}
}

func TestP7_1One(t *testing.T) {
	for _, c := range []struct {
		s    string
		at   int
		kind uint8
		to   int
		err  api.Errno
	}{
		{"aé", 2, 0, 0, api.ErrChar}, {"aé", 1, api.TName, 3, api.OK}, {"aé", 0, api.TName, 3, api.OK}, {"a", -1, 0, 0, api.ErrArg}, {"a", 1, 0, 0, api.ErrArg}, {"", 0, 0, 0, api.ErrArg}, {"a", math.MaxInt, 0, 0, api.ErrArg}, {"a", math.MinInt, 0, 0, api.ErrArg},
		{"a\xff", 0, 0, 0, api.ErrChar}, {"a\x00", 5, 0, 0, api.ErrArg}, {"\x00", 0, 0, 0, api.ErrChar}, {"#\x00", 0, 0, 0, api.ErrChar}, {"#", 0, 0, 0, api.ErrToken}, {"a#", 0, api.TName, 1, api.OK}, {"1x", 0, 0, 0, api.ErrToken}, {"1x", 1, api.TName, 2, api.OK},
		{"\ufeff\n", 0, api.TBlank, 3, api.OK}, {"\ufeff\n", 3, api.TBlank, 4, api.OK}, {" \t\r\n", 1, api.TBlank, 4, api.OK}, {"\v", 0, 0, 0, api.ErrToken}, {"//", 0, api.TLine, 2, api.OK}, {"//a\r\nb", 0, api.TLine, 4, api.OK}, {"//é", 0, api.TLine, 4, api.OK},
		{"/**/", 0, api.TBlock, 4, api.OK}, {"/*/", 0, 0, 0, api.ErrToken}, {"/*/*/", 0, api.TBlock, 5, api.OK}, {"/***/a*/", 0, api.TBlock, 5, api.OK}, {"/*\n*/", 0, api.TBlock, 5, api.OK}, {"/*", 0, 0, 0, api.ErrToken}, {"/=", 0, api.TOp, 2, api.OK},
		{"x\u0669", 0, api.TName, 3, api.OK}, {"\u0669", 0, 0, 0, api.ErrToken}, {"range1", 0, api.TName, 6, api.OK}, {"range", 0, api.TWord, 5, api.OK}, {"_", 0, api.TName, 1, api.OK},
		{".5", 0, api.TFloat, 2, api.OK}, {".a", 0, api.TOp, 1, api.OK}, {"1i", 0, api.TImag, 2, api.OK}, {"0x", 0, 0, 0, api.ErrToken}, {`"a"b`, 0, api.TString, 3, api.OK}, {"`a\n`", 0, api.TString, 4, api.OK}, {"'a'", 0, api.TRune, 3, api.OK}, {"'a", 0, 0, 0, api.ErrToken}, {";;", 0, api.TSemi, 1, api.OK},
		{"....", 0, api.TOp, 3, api.OK}, {"..", 0, api.TOp, 1, api.OK}, {"\\", 0, 0, 0, api.ErrToken}, {"$", 0, 0, 0, api.ErrToken}, {"@", 0, 0, 0, api.ErrToken}, {"?", 0, 0, 0, api.ErrToken}, {"×", 0, 0, 0, api.ErrToken},
	} {
		got, e := scan.One(c.s, c.at)
		want := api.Token{}
		if c.err == api.OK {
			want = api.Token{Kind: c.kind, From: c.at, To: c.to}
		}
		if got != want || e != c.err {
			t.Errorf("One(%q, %d) = %v, %d", c.s, c.at, got, e)
		}
	}
	long := strings.Repeat("a", api.MaxText+9)
	if got, e := scan.One(long, 0); e != api.OK || got.To != len(long) {
		t.Errorf("One of a long text = %v, %d", got, e)
	}
}

// TestP7_1Signs: each sign behind each other one is the longest that stands there.
func TestP7_1Signs(t *testing.T) {
	for _, a := range signs {
		for _, b := range signs {
			s, best := a+b, ""
			for _, x := range signs {
				if strings.HasPrefix(s, x) && len(x) > len(best) {
					best = x
				}
			}
			if strings.HasPrefix(s, "//") || strings.HasPrefix(s, "/*") {
				continue
			}
			if got, e := scan.One(s, 0); e != api.OK || got.Kind != api.TOp || got.To != len(best) {
				t.Errorf("One(%q) = %v, %d; want %q", s, got, e, best)
			}
		}
	}
}

func TestP7_2(t *testing.T) {
	for s, want := range map[string]string{
		"x:=1.5//c": "name<x> op<:=> float<1.5> line<//c>", "a&^=b": "name<a> op<&^=> name<b>", "if\t": "word<if> blank<\t>", "": "", "x:=1 // c": "name<x> op<:=> int<1> blank< > line<// c>",
		"\ufeff a": "blank<\ufeff> blank< > name<a>", "a//b\n/*c*/;": "name<a> line<//b> blank<\n> block</*c*/> semi<;>", "f('a',\"b\",`c`,1i)": "name<f> op<(> rune<'a'> op<,> string<\"b\"> op<,> string<`c`> op<,> imag<1i> op<)>",
		"x...y": "name<x> op<...> name<y>", "<-chan": "op<<-> word<chan>", "a.b.5": "name<a> op<.> name<b> float<.5>", "1+-2": "int<1> op<+> op<-> int<2>", "a- -b": "name<a> op<-> blank< > op<-> name<b>",
	} {
		if l, f := scan.All(s); f != (api.Fault{}) || show(s, l) != want {
			t.Errorf("All(%q) = %s, %v", s, show(s, l), f)
		}
	}
	long := strings.Repeat("a", api.MaxText)
	for _, c := range []struct {
		s    string
		want api.Fault
	}{
		{"1x", api.Fault{Err: api.ErrToken}}, {"#", api.Fault{Err: api.ErrToken}}, {"a /* b", api.Fault{Err: api.ErrToken, At: 2}}, {"a\x00", api.Fault{Err: api.ErrChar, At: 1}}, {"\x00", api.Fault{Err: api.ErrChar}}, {"\xff", api.Fault{Err: api.ErrChar}}, {"\xc3", api.Fault{Err: api.ErrChar}}, {"# \xff", api.Fault{Err: api.ErrChar, At: 2}}, {"a \ufeff", api.Fault{Err: api.ErrChar, At: 2}},
		{long + "\xff", api.Fault{Err: api.ErrLong}}, {long + "#", api.Fault{Err: api.ErrLong}}, {long[1:] + "#", api.Fault{Err: api.ErrToken, At: api.MaxText - 1}}, {"a 'bc' #", api.Fault{Err: api.ErrToken, At: 2}},
	} {
		if l, f := scan.All(c.s); f != c.want || len(l) != 0 {
			t.Errorf("All of %.20q = %d lexemes, %v; want %v", c.s, len(l), f, c.want)
		}
	}
	if l, f := scan.All(long); f != (api.Fault{}) || len(l) != 1 {
		t.Errorf("All of the longest text = %d lexemes, %v", len(l), f)
	}
}

// some makes a text of pieces, most of which are lexemes.
func some(r *rand.Rand, n int) string {
	pieces := append([]string{"a", "bc", "é", "if", "range", "1", "1.5", "0x1", "2i", "'a'", `"b"`, "`c\n`", ";", " ", "\n", "\t\r", "//d", "/*e*/", "/*\n*/", "x1", "_"}, signs...)
	var b strings.Builder
	for ; n > 0; n-- {
		b.WriteString(pieces[r.Intn(len(pieces))])
		if r.Intn(3) == 0 {
			b.WriteByte(' ')
		}
	}
	return b.String()
}

func TestP7_3(t *testing.T) {
	r := rand.New(rand.NewSource(7))
	read := 0
	for i := 0; i < 20000; i++ {
		s := some(r, r.Intn(9))
		l, f := scan.All(s)
		if f != (api.Fault{}) {
			if one, e := scan.One(s, f.At); f.Err != api.ErrToken || e != api.ErrToken || one != (api.Token{}) || len(l) != 0 {
				t.Fatalf("All(%q) = %v, One there: %d", s, f, e)
			}
			continue
		}
		read++
		at, apart := 0, ""
		var words []string
		for _, x := range l {
			if x.From != at || x.To <= x.From {
				t.Fatalf("All(%q): %v at %d", s, x, at)
			}
			at = x.To
			piece := s[x.From:x.To]
			one, e := scan.One(piece, 0)
			if e != api.OK || one.Kind != x.Kind || one.To != len(piece) {
				t.Fatalf("%q by itself: %v, %d", piece, one, e)
			}
			if in, e := scan.One(s, x.From); in != x || e != api.OK {
				t.Fatalf("One(%q, %d) = %v, %d", s, x.From, in, e)
			}
			if apart += piece + "\n"; x.Kind != api.TBlank {
				words = append(words, string(rune('a'+x.Kind))+piece)
			}
		}
		if at != len(s) {
			t.Fatalf("All(%q) ends at %d", s, at)
		}
		again, f := scan.All(apart)
		var back []string
		for _, x := range again {
			if x.Kind != api.TBlank {
				back = append(back, string(rune('a'+x.Kind))+apart[x.From:x.To])
			}
		}
		if f != (api.Fault{}) || strings.Join(back, "\x00") != strings.Join(words, "\x00") {
			t.Fatalf("%q cut apart: %q, %v", s, back, f)
		}
	}
	if read < 1000 {
		t.Errorf("only %d texts were read", read)
	}
}

// TestR3: an answer is new each time.
func TestR3(t *testing.T) {
	a, _ := scan.All("a b")
	a[0].To = 9
	if b, _ := scan.All("a b"); b[0].To != 1 {
		t.Error("an answer is kept")
	}
}
