package trials

import (
	"strconv"
	"strings"
)

// Rules is a file of rules r0, r1 .., each told in short: its goal, its holes with commas
// between, what is sought and what is put, with | between; where that lacks what is sought is
// put again.
func Rules(short ...string) string {
	var b strings.Builder
	line := func(words ...string) {
		b.WriteString(strings.Join(words, " "))
		b.WriteByte('\n')
	}
	for i, s := range short {
		f := strings.Split(s, "|")
		line("rule", "r"+strconv.Itoa(i), f[0])
		for _, h := range strings.Split(f[1], ",") {
			if h != "" {
				line("hole", h)
			}
		}
		line("find")
		line(f[2])
		line("with")
		line(f[len(f)-1])
		line("end")
	}
	return b.String()
}
