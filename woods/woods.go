// Package woods goes through lists of parts as trees: in one go for all parts of a
// list, where a layer would else ask for each part anew. But for Trees its functions
// are for lists that are trees in a row alone.
package woods

import "emend/api"

// Trees is how many trees in a row a list is; -1, if it is none.
func Trees(l []api.Part) int {
	trees, open := 0, 0 // open: how many parts are to come in the tree that isn't ended
	for i, p := range l {
		if open == 0 {
			trees, open = trees+1, 1
		}
		left := len(l) - 1 - i
		if p.Kids < 0 || p.Kids > left || open-1+p.Kids > left {
			return -1
		}
		open += p.Kids - 1
	}
	return trees
}

// End is the number behind a part and all within it.
func End(l []api.Part, i int) int {
	for open := 1; open > 0; i++ {
		open += l[i].Kids - 1
	}
	return i
}

// Ends are the numbers behind each part and all within it.
func Ends(l []api.Part) []int {
	ends := make([]int, len(l))
	for i := len(l) - 1; i >= 0; i-- {
		end := i + 1
		for range l[i].Kids {
			end = ends[end]
		}
		ends[i] = end
	}
	return ends
}

// Ups are the parts of which each part is a kid, -1 of roots, and as which kid, from 0 on.
func Ups(l []api.Part) (ups, places []int) {
	ups, places = make([]int, len(l)), make([]int, len(l))
	var open []int // parts that have kids to come, the last one within the others
	var read []int // how many came
	for i, p := range l {
		ups[i] = -1
		if n := len(open) - 1; n >= 0 {
			ups[i], places[i] = open[n], read[n]
			if read[n]++; read[n] == l[open[n]].Kids {
				open, read = open[:n], read[:n]
			}
		}
		if p.Kids > 0 {
			open, read = append(open, i), append(read, 0)
		}
	}
	return ups, places
}

// Kids are the kids of a part, of a list whose Ends are known.
func Kids(l []api.Part, ends []int, i int) []int {
	var kids []int
	at := i + 1
	for range l[i].Kids {
		kids = append(kids, at)
		at = ends[at]
	}
	return kids
}
