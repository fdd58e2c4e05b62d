package report

import (
	"sort"
	"strconv"

	"emend/api"
	"emend/lines"
	"emend/places"
	"emend/syntax"
	"emend/woods"
)

// text is a text, and where its lines begin: asked often, lines.At would look for them anew
// each time.
type text struct {
	s      string
	starts []int
}

func newText(s string) text {
	return text{s: s, starts: lines.Starts(s)}
}

// place is a place as a text.
func (t text) place(off int) string {
	line := sort.Search(len(t.starts), func(i int) bool { return t.starts[i] > off })
	return strconv.Itoa(line) + ":" + strconv.Itoa(off-t.starts[line-1]+1)
}

// piece is a piece as a text.
func (t text) piece(from, to int) string {
	return t.place(from) + "-" + t.place(to)
}

// tree is a text that was read, and where its parts have their bytes.
type tree struct {
	text
	bytes func(part int) (int, int)
	ends  []int
}

// newTree is the tree of a text that is read.
func newTree(goal uint8, s string) tree {
	p, _ := syntax.Parse(goal, s)
	l, _ := syntax.Term(goal, s)
	return tree{text: newText(s), bytes: places.Of(s, p), ends: woods.Ends(l)}
}

// part is the piece of a part's bytes.
func (t tree) part(i int) string {
	return t.piece(t.bytes(i))
}

// bind is the bytes of what a hole stands for: of trees in a row, each of which has all bytes
// of what is within it.
func (t tree) bind(b api.Bind) string {
	first, last := -1, -1
	for at := b.From; at < b.To; at = t.ends[at] {
		from, to := t.bytes(at)
		if from == to {
			continue
		}
		if first < 0 {
			first = from
		}
		last = to
	}
	if first < 0 {
		return ""
	}
	return t.s[first:last]
}
