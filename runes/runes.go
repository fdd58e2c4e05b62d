// Package runes is layer 1: characters as bytes (UTF-8).
package runes

import "strings"

// broken is what a range over a text tells where no character begins; it is a
// character too, so its form must be looked for.
const (
	broken     = 0xFFFD
	brokenForm = "\xef\xbf\xbd"
)

// Read is the character that begins at a byte, and how many bytes its form has.
func Read(s string, at int) (rune, int) {
	if at < 0 || at >= len(s) {
		return 0, 0
	}
	for _, r := range s[at:] {
		if !begins(s, at, r) {
			return 0, 0
		}
		return r, len(Form(r))
	}
	return 0, 0
}

// Form is a character's bytes.
func Form(r rune) string {
	if !character(r) {
		return ""
	}
	return string(r)
}

// Bad is the first place at which no character begins.
func Bad(s string) int {
	for at, r := range s {
		if !begins(s, at, r) {
			return at
		}
	}
	return -1
}

// All are a text's characters.
func All(s string) ([]rune, bool) {
	var l []rune
	for at, r := range s {
		if !begins(s, at, r) {
			return nil, false
		}
		l = append(l, r)
	}
	return l, true
}

// Join puts characters into a text.
func Join(l []rune) (string, bool) {
	var b strings.Builder
	for _, r := range l {
		if !character(r) {
			return "", false
		}
		b.WriteString(Form(r))
	}
	return b.String(), true
}

// character tells whether a number is a character.
func character(r rune) bool {
	return r >= 0 && r < 0xD800 || r > 0xDFFF && r <= 0x10FFFF
}

// begins tells whether r, told by a range over s at a place, really stands there.
func begins(s string, at int, r rune) bool {
	return r != broken || strings.HasPrefix(s[at:], brokenForm)
}
