package term

import (
	"strconv"
	"strings"

	"emend/api"
	"emend/quoted"
)

// Show is a list as a text.
func Show(l []api.Part) (string, api.Errno) {
	if !Well(l) {
		return "", api.ErrTree
	}
	var b strings.Builder
	var left []int // how many kids are to come, of each part that is open
	for _, p := range l {
		if n := len(left); n > 0 {
			left[n-1]--
			b.WriteByte(' ')
		}
		b.WriteByte('(')
		b.WriteString(strconv.Itoa(int(p.Kind)))
		if p.Word != "" && len(p.Word) <= api.MaxShow {
			b.WriteByte(' ')
			b.WriteString(quoted.Quote(p.Word))
		}
		left = append(left, p.Kids)
		for len(left) > 0 && left[len(left)-1] == 0 {
			b.WriteByte(')')
			left = left[:len(left)-1]
		}
		if b.Len() > api.MaxShow || len(p.Word) > api.MaxShow {
			return "", api.ErrLong
		}
	}
	return b.String(), api.OK
}

// Read is the list that a text says.
func Read(s string) ([]api.Part, api.Errno) {
	if len(s) > api.MaxShow {
		return nil, api.ErrLong
	}
	var l []api.Part
	var open []int
	at := 0
	next := func(sign string) bool {
		if !strings.HasPrefix(s[at:], sign) {
			return false
		}
		at += len(sign)
		return true
	}
	for first := true; first || len(open) > 0; first = false {
		if n := len(open); n > 0 && next(")") {
			open = open[:n-1]
			continue
		}
		if !first && !next(" ") || !next("(") {
			return nil, api.ErrForm
		}
		p, n := head(s[at:])
		if n == 0 {
			return nil, api.ErrForm
		}
		at += n
		if len(open) > 0 {
			l[open[len(open)-1]].Kids++
		}
		open = append(open, len(l))
		l = append(l, p)
	}
	if at < len(s) {
		return nil, api.ErrForm
	}
	return l, api.OK
}

// head is a part's kind and word, told at a text's beginning, and how many bytes
// tell them; 0, if none are told there.
func head(s string) (api.Part, int) {
	n := 0
	for n < len(s) && s[n] >= '0' && s[n] <= '9' {
		n++
	}
	kind, err := strconv.ParseUint(s[:n], 10, 8)
	if err != nil || s[0] == '0' && n > 1 {
		return api.Part{}, 0
	}
	p := api.Part{Kind: uint8(kind)}
	if !strings.HasPrefix(s[n:], ` "`) {
		return p, n
	}
	_, end, e := quoted.Scan(s, n+1)
	if e != api.OK {
		return api.Part{}, 0
	}
	p.Word, e = quoted.Value(s[n+1 : end])
	if e != api.OK || p.Word == "" || quoted.Quote(p.Word) != s[n+1:end] {
		return api.Part{}, 0
	}
	return p, end
}
