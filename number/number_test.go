package number_test

import (
	"math"
	"regexp"
	"strings"
	"testing"

	"emend/api"
	"emend/number"
)

const (
	row10 = `[0-9](?:_?[0-9])*`
	row16 = `[0-9a-fA-F](?:_?[0-9a-fA-F])*`
	power = `[eE][+-]?` + row10
	twos  = `[pP][+-]?` + row10
)

// The table of the document, as patterns.
const (
	whole  = `0|[1-9](?:_?[0-9])*|0_?[0-7](?:_?[0-7])*|0[bB]_?[01](?:_?[01])*|0[oO]_?[0-7](?:_?[0-7])*|0[xX]_?` + row16
	broken = row10 + `\.(?:` + row10 + `)?(?:` + power + `)?|\.` + row10 + `(?:` + power + `)?|` + row10 + power +
		`|0[xX]_?` + row16 + `(?:\.(?:` + row16 + `)?)?` + twos + `|0[xX]\.` + row16 + twos
)

var (
	isWhole  = regexp.MustCompile(`^(?:` + whole + `)$`)
	isBroken = regexp.MustCompile(`^(?:` + broken + `)$`)
	isImag   = regexp.MustCompile(`^(?:` + whole + `|` + broken + `|` + row10 + `)i$`)
	tenRun   = regexp.MustCompile(`^[.0-9](?:[eE][+-]|[a-zA-Z0-9_.])*`)
	hexRun   = regexp.MustCompile(`^0[xX](?:[pP][+-]|[a-zA-Z0-9_.])*`)
	starts   = regexp.MustCompile(`^\.?[0-9]`)
)

func kind(s string) uint8 {
	switch {
	case isWhole.MatchString(s):
		return api.TInt
	case isBroken.MatchString(s):
		return api.TFloat
	case isImag.MatchString(s):
		return api.TImag
	}
	return 0
}

// all are the texts of up to n bytes of some.
func all(some string, n int) []string {
	out, last := []string{""}, []string{""}
	for ; n > 0; n-- {
		var next []string
		for _, s := range last {
			for _, c := range some {
				next = append(next, s+string(c))
			}
		}
		out, last = append(out, next...), next
	}
	return out
}

func check(t *testing.T, s string) {
	t.Helper()
	if got, want := number.Kind(s), kind(s); got != want {
		t.Fatalf("Kind(%q) = %d, want %d", s, got, want)
	}
	var k uint8
	end, e := 0, api.ErrNone
	if starts.MatchString(s) {
		run := hexRun.FindString(s)
		if run == "" {
			run = tenRun.FindString(s)
		}
		if k, end, e = kind(run), len(run), api.OK; k == 0 {
			end, e = 0, api.ErrToken
		}
	}
	if gk, gend, ge := number.Scan(s, 0); gk != k || gend != end || ge != e {
		t.Fatalf("Scan(%q, 0) = %d, %d, %d; want %d, %d, %d", s, gk, gend, ge, k, end, e)
	}
	want := 0
	if e == api.OK {
		want = end + 2
	}
	if gk, gend, ge := number.Scan("+ "+s, 2); gk != k || gend != want || ge != e {
		t.Fatalf("Scan(%q, 2) = %d, %d, %d; want %d, %d, %d", "+ "+s, gk, gend, ge, k, want, e)
	}
}

// TestP5_1All: short texts of what numbers are made of, held against the table.
func TestP5_1All(t *testing.T) {
	for _, s := range all("018_.exi+", 5) {
		check(t, s)
	}
	for _, s := range all("17_.pPe-a", 4) {
		check(t, "0x"+s)
		check(t, "0X"+s+"1")
		check(t, "0b"+s)
	}
	for _, s := range all("0179_.EBOi", 4) {
		check(t, "0"+s)
		check(t, "0o"+s)
		check(t, s+"9")
	}
	for _, s := range all("0_gGzZfF:/@`[{", 3) {
		check(t, "0x"+s)
		check(t, "1"+s)
	}
}

// TestP5_1Bytes: each byte in places where some may stand.
func TestP5_1Bytes(t *testing.T) {
	for b := 0; b < 256; b++ {
		c := string([]byte{byte(b)})
		for _, s := range []string{"", "1", "5", "1 5", "0 1", "0 ", "1. 5", ".5 ", "1e 5", "1e1 ", "1 .5", "0x 1", "0x1 5", "0x1p 5", "0x1.8 1", "0x1p1 ", "0b1 ", "0o7 ", "01 ", "1_ ", "0x. 1p1", "1 _1", "0 _1", "1ei ", "1 i"} {
			check(t, strings.ReplaceAll(s, " ", c))
			check(t, c+s)
		}
	}
}

func TestP5_1Examples(t *testing.T) {
	for want, l := range map[uint8]string{
		api.TInt:   "0 12 0b1 0x_Ff 1_000 017 0_7 00 0O_7 0B1_0 0xdeadBEEF 123456789012345678901234567890",
		api.TFloat: "1. .5 1e9 0x1p-2 08.5 0x.8P+1 1E-1_0 0x1.p1 0_8.e1 08e1 0x_1.8p1",
		api.TImag:  "08i 0x1i 1.5i 0i 0b1i 0_8i .5i 0x1p2i 1_0i",
		0:          "08 1__0 1_ 0x 1e 0x1.5 _1 0b2 0o8 0b 0o 1i2 ii i 0x_.8p1 0x._8p1 1_.5 1._5 1e_1 1e+ + . ._1 0xp1 0x1pa 0b1.0 0b1e1 1p1 0_ 0__7 0x__1 1ii",
	} {
		for _, s := range strings.Fields(l) {
			if got := number.Kind(s); got != want {
				t.Errorf("Kind(%q) = %d, want %d", s, got, want)
			}
		}
	}
	for _, s := range []string{"", " 1", "1 ", "1\n", "\x001", "１", "1é"} {
		if number.Kind(s) != 0 {
			t.Errorf("Kind(%q) = %d", s, number.Kind(s))
		}
	}
}

func TestP5_1Scan(t *testing.T) {
	for _, c := range []struct {
		s    string
		at   int
		kind uint8
		end  int
		err  api.Errno
	}{
		{"a+1.5e+3;", 2, api.TFloat, 8, api.OK}, {"0x1e+3", 0, api.TInt, 4, api.OK}, {"1x", 0, 0, 0, api.ErrToken}, {".a", 0, 0, 0, api.ErrNone}, {"1", -1, 0, 0, api.ErrNone}, {"1", 1, 0, 0, api.ErrNone},
		{"1", math.MaxInt, 0, 0, api.ErrNone}, {"1", math.MinInt, 0, 0, api.ErrNone}, {"", 0, 0, 0, api.ErrNone}, {".", 0, 0, 0, api.ErrNone}, {"1.", 1, 0, 0, api.ErrNone}, {"a1", 0, 0, 0, api.ErrNone}, {"a1", 1, api.TInt, 2, api.OK},
		{"1é", 0, api.TInt, 1, api.OK}, {"1++2", 0, api.TInt, 1, api.OK}, {"1e++2", 0, 0, 0, api.ErrToken}, {"0x1p+2+3", 0, api.TFloat, 6, api.OK}, {"1..2", 0, 0, 0, api.ErrToken}, {"0b1e+3", 0, 0, 0, api.ErrToken}, {"1p+3", 0, 0, 0, api.ErrToken},
		{"e-1", 2, api.TInt, 3, api.OK}, {"e+1", 1, 0, 0, api.ErrNone}, {"_1", 0, 0, 0, api.ErrNone}, {"1_", 0, 0, 0, api.ErrToken},
	} {
		if k, end, e := number.Scan(c.s, c.at); k != c.kind || end != c.end || e != c.err {
			t.Errorf("Scan(%q, %d) = %d, %d, %d", c.s, c.at, k, end, e)
		}
	}
}

func TestP5_2(t *testing.T) {
	for _, s := range all("018_.exi", 5) {
		k := number.Kind(s)
		if k != 0 && number.Kind(strings.ReplaceAll(s, "_", "")) != k {
			t.Fatalf("%q is of another kind without its _", s)
		}
		if (k == api.TInt || k == api.TFloat) && number.Kind(s+"i") != api.TImag {
			t.Fatalf("%q and an i is no TImag", s)
		}
		if got, end, e := number.Scan(s, 0); e == api.OK && (got != number.Kind(s[:end]) || end == 0) {
			t.Fatalf("Scan(%q) = %d, %d", s, got, end)
		}
	}
}
