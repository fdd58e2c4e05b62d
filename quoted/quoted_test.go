package quoted_test

import (
	"math"
	"strconv"
	"strings"
	"testing"

	"emend/api"
	"emend/quoted"
)

func TestP6_1(t *testing.T) {
	for _, c := range []struct {
		s    string
		at   int
		kind uint8
		end  int
		err  api.Errno
	}{
		{"x'a'", 1, api.TRune, 4, api.OK}, {`"a\"b"c"`, 0, api.TString, 6, api.OK}, {"'ab'", 0, 0, 0, api.ErrToken}, {"'", 0, 0, 0, api.ErrToken}, {"a", 0, 0, 0, api.ErrNone},
		{"'a'", -1, 0, 0, api.ErrNone}, {"'a'", 3, 0, 0, api.ErrNone}, {"", 0, 0, 0, api.ErrNone}, {"'a'", math.MaxInt, 0, 0, api.ErrNone}, {"'a'", math.MinInt, 0, 0, api.ErrNone}, {"'a'", 1, 0, 0, api.ErrNone},
		{"'€'", 0, api.TRune, 5, api.OK}, {"'\U0010ffff'", 0, api.TRune, 6, api.OK}, {"'\xff'", 0, 0, 0, api.ErrToken}, {"'''", 0, 0, 0, api.ErrToken}, {"''", 0, 0, 0, api.ErrToken}, {"'\n'", 0, 0, 0, api.ErrToken}, {`'\''`, 0, api.TRune, 4, api.OK}, {`'"'`, 0, api.TRune, 3, api.OK},
		{`'\"'`, 0, 0, 0, api.ErrToken}, {`"\'"`, 0, 0, 0, api.ErrToken}, {`"'"`, 0, api.TString, 3, api.OK}, {`""`, 0, api.TString, 2, api.OK}, {"\"\xff\x00\t\"", 0, api.TString, 5, api.OK}, {"\"a\nb\"", 0, 0, 0, api.ErrToken}, {`"ab`, 0, 0, 0, api.ErrToken}, {`"a\"`, 0, 0, 0, api.ErrToken}, {`"\`, 0, 0, 0, api.ErrToken},
		{"`a\n\\`b`", 0, api.TString, 5, api.OK}, {"``", 0, api.TString, 2, api.OK}, {"`a", 0, 0, 0, api.ErrToken}, {"`\xff\x00\"'`", 0, api.TString, 6, api.OK}, {`'\`, 0, 0, 0, api.ErrToken}, {`'\n`, 0, 0, 0, api.ErrToken}, {"'\x00'", 0, api.TRune, 3, api.OK}, {"'\r'", 0, api.TRune, 3, api.OK}, {`'\x41'b`, 0, api.TRune, 6, api.OK}, {`'\\'`, 0, api.TRune, 4, api.OK},
		{`"`, 0, 0, 0, api.ErrToken}, {"`", 0, 0, 0, api.ErrToken}, {`"\xg0"`, 0, 0, 0, api.ErrToken}, {`"\8"`, 0, 0, 0, api.ErrToken}, {`"\18"`, 0, 0, 0, api.ErrToken}, {`"\u12"`, 0, 0, 0, api.ErrToken}, {`'\u00e`, 0, 0, 0, api.ErrToken},
	} {
		if k, end, e := quoted.Scan(c.s, c.at); k != c.kind || end != c.end || e != c.err {
			t.Errorf("Scan(%q, %d) = %d, %d, %d", c.s, c.at, k, end, e)
		}
	}
}

func TestP6_2(t *testing.T) {
	for _, c := range [][2]string{
		{`'\377'`, "\xc3\xbf"}, {`"\377"`, "\xff"}, {`"\u20ac"`, "\xe2\x82\xac"}, {`'\xff'`, "\u00ff"}, {`"\xfF"`, "\xff"}, {`'\000'`, "\x00"}, {`"\000\x00"`, "\x00\x00"}, {`'a'`, "a"}, {`'€'`, "€"}, {`'\u20AC'`, "€"}, {`'\U0010FFFF'`, "\U0010ffff"},
		{`"\a\b\f\n\r\t\v\\\""`, "\x07\x08\x0c\x0a\x0d\x09\x0b\x5c\x22"}, {`'\a'`, "\x07"}, {`'\b'`, "\x08"}, {`'\f'`, "\x0c"}, {`'\n'`, "\x0a"}, {`'\r'`, "\x0d"}, {`'\t'`, "\x09"}, {`'\v'`, "\x0b"}, {`'\''`, "'"}, {`"\U0000004a\112J"`, "JJJ"},
		{"`a\r\nb\\n\r`", "a\nb\\n"}, {"``", ""}, {`""`, ""}, {"\"\xff\x00\"", "\xff\x00"}, {`"\1234"`, "S4"}, {`"\x414"`, "A4"}, {`"a'b"`, "a'b"}, {`"\uD7FF\uE000"`, "\ud7ff\ue000"},
	} {
		if got, e := quoted.Value(c[0]); got != c[1] || e != api.OK {
			t.Errorf("Value(%s) = %q, %d", c[0], got, e)
		}
	}
	for _, s := range []string{
		"", "a", "'", "'a", "''", "'ab'", "'a'b", " 'a'", "'a' ", `""a`, `"a""b"`, "`a`b`", `"\uD800"`, `'\uDFFF'`, `"\U00110000"`, `"\UFFFFFFFF"`, `"\U80000041"`, `"\400"`, `'\400'`, `"\777"`, `"\x4"`, `"\u123"`, `"\U0000123"`, `"\c"`, `"\`, "\"\\\n\"", "\"\n\"", "'\n'",
		"'\xc3'", `'\"'`, `"\'"`, `"\12"`, `"\xGG"`, `"\u+123"`, `"\180"`, `"\108"`, `'\081'`, `"\xg0"`, `"\x0g"`, "\"\\\xff\"", `"\0"`, `"\N"`, `'a"`, "`a'",
	} {
		if got, e := quoted.Value(s); got != "" || e != api.ErrToken {
			t.Errorf("Value(%q) = %q, %d", s, got, e)
		}
	}
	for n := 0; n < 512; n++ {
		digits := string([]byte{'0' + byte(n>>6), '0' + byte(n>>3&7), '0' + byte(n&7)})
		one, e1 := quoted.Value(`"\` + digits + `"`)
		two, e2 := quoted.Value(`'\` + digits + `'`)
		if n < 256 != (e1 == api.OK) || n < 256 != (e2 == api.OK) || n < 256 && (one != string([]byte{byte(n)}) || two != string(rune(n))) {
			t.Fatalf("escape %s: %q, %d, %q, %d", digits, one, e1, two, e2)
		}
	}
}

func TestP6_3(t *testing.T) {
	if got := quoted.Quote("a\n\xff"); got != `"a\n\xff"` {
		t.Errorf("Quote = %s", got)
	}
	if got := quoted.Quote(""); got != `""` {
		t.Errorf("Quote of nothing = %s", got)
	}
	for b := 0; b < 256; b++ {
		want := string([]byte{byte(b)})
		switch {
		case b == '"' || b == '\\':
			want = `\` + want
		case b == '\n':
			want = `\n`
		case b < 0x20 || b > 0x7E:
			want = `\x` + strconv.FormatInt(int64(b)+0x100, 16)[1:]
		}
		if got := quoted.Quote(string([]byte{byte(b)})); got != `"`+want+`"` {
			t.Errorf("Quote of byte %x = %s", b, got)
		}
	}
}

// texts are what marks may have between them, of up to n pieces.
func texts(n int) []string {
	out, last := []string{""}, []string{""}
	for ; n > 0; n-- {
		var next []string
		for _, s := range last {
			for _, c := range []string{"a", "\n", "\r", `\`, `'`, `"`, "`", "\xff", "é", "n", "x41", "7"} {
				next = append(next, s+c)
			}
		}
		out, last = append(out, next...), next
	}
	return out
}

func TestP6_4(t *testing.T) {
	for _, s := range texts(4) {
		if got, e := quoted.Value(quoted.Quote(s)); got != s || e != api.OK {
			t.Fatalf("Value(Quote(%q)) = %q, %d", s, got, e)
		}
		for _, m := range []string{"'", `"`, "`"} {
			_, end, e := quoted.Scan(m+s, 0)
			if e != api.OK {
				continue
			}
			if _, e := quoted.Value((m + s)[:end]); e != api.OK {
				t.Fatalf("what Scan finds in %q has no value", m+s)
			}
			for i := 0; i < end; i++ {
				if _, e := quoted.Value((m + s)[:i]); e == api.OK {
					t.Fatalf("Scan of %q goes on behind %d", m+s, i)
				}
			}
		}
	}
	var good []string
	for _, s := range texts(3) {
		if _, e := quoted.Value(`"` + s + `"`); e == api.OK {
			good = append(good, s)
		}
	}
	for i, a := range good {
		b := good[(i*5+1)%len(good)]
		va, _ := quoted.Value(`"` + a + `"`)
		vb, _ := quoted.Value(`"` + b + `"`)
		if both, e := quoted.Value(`"` + a + b + `"`); both != va+vb || e != api.OK {
			t.Fatalf("Value of %s and %s together = %q", a, b, both)
		}
	}
	long := strings.Repeat(`\"`, 1<<16)
	if _, end, e := quoted.Scan(`"`+long+`"`, 0); end != len(long)+2 || e != api.OK {
		t.Errorf("Scan of a long text = %d, %d", end, e)
	}
}
