package runes_test

import (
	"slices"
	"strings"
	"testing"

	"emend/runes"
)

// form is the table of the document, written out by bits.
func form(r rune) string {
	switch {
	case r < 0 || r > 0x10FFFF || r >= 0xD800 && r <= 0xDFFF:
		return ""
	case r < 0x80:
		return string([]byte{byte(r)})
	case r < 0x800:
		return string([]byte{0xC0 | byte(r>>6), 0x80 | byte(r&0x3F)})
	case r < 0x10000:
		return string([]byte{0xE0 | byte(r>>12), 0x80 | byte(r>>6&0x3F), 0x80 | byte(r&0x3F)})
	}
	return string([]byte{0xF0 | byte(r>>18), 0x80 | byte(r>>12&0x3F), 0x80 | byte(r>>6&0x3F), 0x80 | byte(r&0x3F)})
}

// read looks for a form at a place by the bits of its bytes.
func read(s string, at int) (rune, int) {
	if at < 0 || at >= len(s) {
		return 0, 0
	}
	b, n, r := s[at], 0, rune(0)
	switch {
	case b < 0x80:
		n, r = 1, rune(b)
	case b>>5 == 6:
		n, r = 2, rune(b&0x1F)
	case b>>4 == 14:
		n, r = 3, rune(b&0xF)
	case b>>3 == 30:
		n, r = 4, rune(b&7)
	}
	for i := 1; i < n && at+i < len(s); i++ {
		r = r<<6 | rune(s[at+i]&0x3F)
	}
	if n == 0 || form(r) == "" || !strings.HasPrefix(s[at:], form(r)) {
		return 0, 0
	}
	return r, n
}

// cut is all characters of a text, and the first place at which none begins.
func cut(s string) ([]rune, int) {
	var l []rune
	for at := 0; at < len(s); {
		r, n := read(s, at)
		if n == 0 {
			return nil, at
		}
		l, at = append(l, r), at+n
	}
	return l, -1
}

// samples are texts of up to four bytes from the edges of the table.
func samples() []string {
	edge := []byte{0, 'a', 0x7F, 0x80, 0x8F, 0x90, 0x9F, 0xA0, 0xBD, 0xBF, 0xC0, 0xC1, 0xC2, 0xDF, 0xE0, 0xED, 0xEF, 0xF0, 0xF4, 0xF5, 0xFF}
	out, last := []string{""}, []string{""}
	for n := 0; n < 4; n++ {
		var next []string
		for _, s := range last {
			for _, b := range edge {
				next = append(next, s+string([]byte{b}))
			}
		}
		out, last = append(out, next...), next
	}
	return out
}

// TestP1_1Form: every number, and some around.
func TestP1_1Form(t *testing.T) {
	for r := rune(-3); r <= 0x110003; r++ {
		f := runes.Form(r)
		if f != form(r) {
			t.Fatalf("Form(%x) = %x", r, f)
		}
		if got, n := runes.Read("x"+f+"y", 1); f != "" && (got != r || n != len(f)) {
			t.Fatalf("Read of the form of %x = %x, %d", r, got, n)
		}
	}
	for _, r := range []rune{-1 << 31, 1<<31 - 1} {
		if runes.Form(r) != "" {
			t.Errorf("Form(%d) is not empty", r)
		}
	}
}

// TestP1_1Read: every place of texts whole and broken, and places outside.
func TestP1_1Read(t *testing.T) {
	for _, s := range samples() {
		for at := -1; at <= len(s)+1; at++ {
			r, n := runes.Read(s, at)
			if wr, wn := read(s, at); r != wr || n != wn {
				t.Fatalf("Read(%q, %d) = %x, %d; want %x, %d", s, at, r, n, wr, wn)
			}
		}
	}
	for _, at := range []int{-1 << 63, 1<<63 - 1} {
		if r, n := runes.Read("abc", at); r != 0 || n != 0 {
			t.Errorf("Read(abc, %d) = %x, %d", at, r, n)
		}
	}
}

// TestP1_2: Bad, All and Join, right and wrong.
func TestP1_2(t *testing.T) {
	for _, s := range samples() {
		want, bad := cut(s)
		if got := runes.Bad(s); got != bad {
			t.Fatalf("Bad(%q) = %d, want %d", s, got, bad)
		}
		l, ok := runes.All(s)
		if ok != (bad < 0) || !slices.Equal(l, want) {
			t.Fatalf("All(%q) = %x, %v", s, l, ok)
		}
	}
	for _, c := range []struct {
		l    []rune
		want string
		ok   bool
	}{
		{nil, "", true}, {[]rune{0xE9, 0x20AC}, "\u00e9\u20ac", true}, {[]rune{0}, "\x00", true}, {[]rune{0xFFFD}, "\xef\xbf\xbd", true},
		{[]rune{0xD800}, "", false}, {[]rune{'a', 0xDFFF}, "", false}, {[]rune{'a', -1, 'b'}, "", false}, {[]rune{0x110000, 'a'}, "", false},
		{[]rune{0xD7FF, 0xE000, 0x10FFFF}, "\xed\x9f\xbf\xee\x80\x80\xf4\x8f\xbf\xbf", true},
	} {
		if s, ok := runes.Join(c.l); s != c.want || ok != c.ok {
			t.Errorf("Join(%x) = %q, %v", c.l, s, ok)
		}
	}
}

// TestP1_3: there and back, and two texts one behind the other.
func TestP1_3(t *testing.T) {
	var good []string
	for _, s := range samples() {
		if l, ok := runes.All(s); ok {
			if back, ok := runes.Join(l); !ok || back != s {
				t.Fatalf("Join(All(%q)) = %q", s, back)
			}
			if len(s) < 4 {
				good = append(good, s)
			}
		}
	}
	good = append(good, "\u20ac\U00010400", "\ufeff\ufffd")
	for i, a := range good {
		b := good[(i*7+3)%len(good)]
		la, _ := runes.All(a)
		lb, _ := runes.All(b)
		both, ok := runes.All(a + b)
		if !ok || !slices.Equal(both, append(slices.Clone(la), lb...)) {
			t.Fatalf("All(%q) = %x", a+b, both)
		}
	}
}

// TestR3: what is handed in stays, what is handed out is new.
func TestR3(t *testing.T) {
	room := []rune{'a', 'b', 'c', 'd'}
	if s, ok := runes.Join(room[:2]); s != "ab" || !ok || string(room) != "abcd" {
		t.Errorf("Join changed what it was handed: %q, %q", s, string(room))
	}
	l, _ := runes.All("ab")
	m, _ := runes.All("ab")
	l[0] = 'x'
	if m[0] != 'a' {
		t.Error("two answers share memory")
	}
	if again, _ := runes.All("ab"); again[0] != 'a' {
		t.Error("an answer is kept")
	}
}
