package patch

import (
	"strings"

	"emend/api"
	"emend/fill"
	"emend/guard"
	"emend/render"
	"emend/scan"
	"emend/woods"
)

// edit is the edit of a pick, if it has one.
func (j *job) edit(m api.Match) (api.Edit, bool) {
	parts, from := j.made(m)
	if woods.Trees(parts) != 1 && !j.inRow(m.Part) {
		return api.Edit{}, false
	}
	size := len(j.l) - (j.ends[m.Part] - m.Part) + len(parts)
	if size > api.MaxParts {
		need(api.ErrLong)
	}
	parts, from = j.guarded(m.Part, parts, from)
	x := api.Edit{Text: j.text(parts, from)}
	x.From, x.To = j.bytes(m.Part)
	if x.Text != "" {
		x.Text = j.apart(x)
	}
	return x, true
}

// inRow tells whether any number of trees may stand in a part's place.
func (j *job) inRow(part int) bool {
	up := j.ups[part]
	return up >= 0 && j.l[up].Kind == api.KStmts
}

// made is what a pick's rule makes. What it is made of stands within the pick's part: the
// rest of the list need not be looked through.
func (j *job) made(m api.Match) ([]api.Part, []int) {
	binds := make([]api.Bind, len(m.Binds))
	for i, b := range m.Binds {
		binds[i] = api.Bind{Name: b.Name, From: b.From - m.Part, To: b.To - m.Part}
	}
	parts, from, e := fill.Fill(j.rules[m.Rule], j.l[m.Part:j.ends[m.Part]], binds)
	need(e)
	for i := range from {
		if from[i] >= 0 {
			from[i] += m.Part
		}
	}
	return parts, from
}

// guarded is what was made, guarded as it is in its place: in a part like that in which it
// comes to stand, with nothing in the places ahead of it.
func (j *job) guarded(part int, parts []api.Part, from []int) ([]api.Part, []int) {
	up := api.Part{Kind: api.KStmts}
	nth := 0
	if j.ups[part] >= 0 && !j.inRow(part) {
		up, nth = j.l[j.ups[part]], j.nth[part]
	}
	// Where many may stand none is loose, and how many stand ahead says nothing.
	if nth > 3 {
		nth = 0
	}
	up.Kids = nth + woods.Trees(parts)
	l := append([]api.Part{up}, make([]api.Part, nth)...)
	l = append(l, parts...)
	nums := append(make([]int, nth+1), from...)
	l, nums, e := guard.With(l, nums)
	need(e)
	return l[nth+1:], nums[nth+1:]
}

// text is trees as texts, what comes from the text as it stands there, with a byte 10 between
// any two.
func (j *job) text(parts []api.Part, from []int) string {
	var texts []string
	for at := 0; at < len(parts); {
		end := woods.End(parts, at)
		raw := make([]string, end-at)
		for i := range raw {
			if part := from[at+i]; part >= 0 {
				a, b := j.bytes(part)
				raw[i] = j.s[a:b]
			}
		}
		text, e := render.Mixed(parts[at:end], raw)
		need(e)
		texts = append(texts, text)
		at = end
	}
	return strings.Join(texts, "\n")
}

// The sorts of bytes of which two grow together.
const (
	alone = iota
	letters
	signs
)

// sort is the sort of a byte.
func sort(b byte) int {
	switch {
	case b >= 'a' && b <= 'z' || b >= 'A' && b <= 'Z' || b >= '0' && b <= '9' || b == '_' || b >= 0x80:
		return letters
	case strings.IndexByte("+-*/%&|^<>=!:~", b) >= 0:
		return signs
	}
	return alone
}

// sortAt is the sort of a byte of the text: the mark at its beginning is no letter.
func (j *job) sortAt(at int) int {
	const mark = "\xef\xbb\xbf"
	if at < len(mark) && strings.HasPrefix(j.s, mark) {
		return alone
	}
	return sort(j.s[at])
}

// apart is an edit's text, with blanks around it where it would grow together with what
// stands there.
func (j *job) apart(x api.Edit) string {
	text := x.Text
	first, last := sort(text[0]), sort(text[len(text)-1])
	if x.From > 0 && first != alone && first == j.sortAt(x.From-1) {
		text = " " + text
	}
	if x.To == len(j.s) {
		return text
	}
	if last != alone && last == j.sortAt(x.To) || j.s[x.To] == '.' && endsInNumber(x.Text) {
		text += " "
	}
	return text
}

// endsInNumber tells whether a text's last lexeme is a number.
func endsInNumber(s string) bool {
	l, fault := scan.All(s)
	if fault != (api.Fault{}) || len(l) == 0 {
		return false
	}
	kind := l[len(l)-1].Kind
	return kind == api.TInt || kind == api.TFloat || kind == api.TImag
}
