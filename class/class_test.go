package class_test

import (
	"testing"

	"emend/class"
)

// letters are the ranges of the document, both ends in.
var letters = [][2]rune{
	{0x41, 0x5A}, {0x5F, 0x5F}, {0x61, 0x7A}, {0xAA, 0xAA}, {0xB5, 0xB5}, {0xBA, 0xBA}, {0xC0, 0xD6}, {0xD8, 0xF6}, {0xF8, 0x2C1},
	{0x370, 0x373}, {0x376, 0x377}, {0x37B, 0x37D}, {0x386, 0x386}, {0x388, 0x38A}, {0x38C, 0x38C}, {0x38E, 0x3A1}, {0x3A3, 0x3F5},
	{0x400, 0x481}, {0x48A, 0x52F}, {0x531, 0x556}, {0x561, 0x587}, {0x5D0, 0x5EA}, {0x620, 0x64A}, {0x904, 0x939}, {0xE01, 0xE30},
	{0x10A0, 0x10C5}, {0x1E00, 0x1F15}, {0x3041, 0x3096}, {0x30A1, 0x30FA}, {0x4E00, 0x9FFF}, {0xAC00, 0xD7A3}, {0x10400, 0x1044F}, {0x20000, 0x2A6DF},
}

var digits = [][2]rune{{0x30, 0x39}, {0x660, 0x669}, {0x966, 0x96F}, {0xE50, 0xE59}, {0xFF10, 0xFF19}}

var words = []string{"break", "case", "chan", "const", "continue", "default", "defer", "else", "fallthrough", "for", "func", "go", "goto", "if", "import", "interface", "map", "package", "range", "return", "select", "struct", "switch", "type", "var"}

func in(r rune, l [][2]rune) bool {
	for _, x := range l {
		if r >= x[0] && r <= x[1] {
			return true
		}
	}
	return false
}

// TestP2_1Sorts: every number, and some that are no characters.
func TestP2_1Sorts(t *testing.T) {
	check := func(r rune) {
		blank := r == 9 || r == 10 || r == 13 || r == 32
		if class.Letter(r) != in(r, letters) || class.Digit(r) != in(r, digits) || class.Blank(r) != blank {
			t.Fatalf("%x: %v %v %v", r, class.Letter(r), class.Digit(r), class.Blank(r))
		}
	}
	for r := rune(-5); r < 0x110005; r++ {
		check(r)
	}
	check(-1 << 31)
	check(1<<31 - 1)
}

func TestP2_1Base(t *testing.T) {
	for r := rune(-300); r < 0x1000; r++ {
		want := -1
		switch {
		case r >= 0x30 && r <= 0x39:
			want = int(r) - 0x30
		case r >= 0x41 && r <= 0x46:
			want = int(r) - 0x41 + 10
		case r >= 0x61 && r <= 0x66:
			want = int(r) - 0x61 + 10
		}
		if class.Base(r) != want {
			t.Fatalf("Base(%x) = %d", r, class.Base(r))
		}
	}
	if class.Base(0xFF11) != -1 || class.Base(1<<31-1) != -1 {
		t.Error("Base of what is no digit of base 16")
	}
}

func TestP2_2Word(t *testing.T) {
	for _, w := range words {
		if !class.Word(w) || class.Name(w) {
			t.Errorf("%s is a word and no name", w)
		}
		for _, x := range []string{w + "s", w[1:], "_" + w, string(w[0]-32) + w[1:]} {
			if class.Word(x) || !class.Name(x) {
				t.Errorf("%s is a name and no word", x)
			}
		}
		if class.Word(w+" ") || class.Name(w+" ") {
			t.Errorf("%q is neither", w+" ")
		}
	}
	for _, x := range []string{"", "true", "nil", "int", "iota", "any"} {
		if class.Word(x) {
			t.Errorf("%q is no word", x)
		}
	}
}

func TestP2_2Name(t *testing.T) {
	for _, s := range []string{"_", "x1", "αβ", "a\u0669", "__", "X", "_9", "\u4e00\uff10", "\U00020000"} {
		if !class.Name(s) {
			t.Errorf("%q is a name", s)
		}
	}
	for _, s := range []string{"", "1x", "9", "a-b", "a b", " a", "a\xff", "\xff", "\u0669a", "a\u00d7", "a.b", "a\x00", "a\xc0\x80", "\ufeffa", "é\u0301"} {
		if class.Name(s) {
			t.Errorf("%q is no name", s)
		}
	}
}

// TestP2_3: no two sorts at once; names stay names by a letter or digit more.
func TestP2_3(t *testing.T) {
	for r := rune(0); r <= 0x10FFFF; r++ {
		n := 0
		for _, is := range []bool{class.Letter(r), class.Digit(r), class.Blank(r)} {
			if is {
				n++
			}
		}
		if n > 1 {
			t.Fatalf("%x is of two sorts", r)
		}
		if r >= 0xD800 && r <= 0xDFFF {
			continue
		}
		if x := "rang" + string(r); class.Name(x) != ((class.Letter(r) || class.Digit(r)) && r != 'e') {
			t.Fatalf("Name(%q) = %v", x, class.Name(x))
		}
	}
}
