package span_test

import (
	"math"
	"slices"
	"syscall"
	"testing"
	"unsafe"

	"emend/api"
	"emend/span"
)

// far is a text of n bytes 0 that takes no memory until it is read.
func far(t *testing.T, n int) string {
	t.Helper()
	b, err := syscall.Mmap(-1, 0, n, syscall.PROT_READ, syscall.MAP_ANON|syscall.MAP_PRIVATE|syscall.MAP_NORESERVE)
	if err != nil {
		t.Skip("no place for a text so long here: ", err)
	}
	t.Cleanup(func() { _ = syscall.Munmap(b) })
	return unsafe.String(unsafe.SliceData(b), len(b))
}

// TestFar holds P3.1 and P3.3, and R1, where all that edits put is more than an int holds.
func TestFar(t *testing.T) {
	const half = 1 << 17 // so many of the text are the first number above an int
	text := far(t, math.MaxInt/half+1)
	for _, times := range []int{8, half - 1, half, half + 1, 2*half - 1, 2 * half, 2*half + 1, 4 * half} {
		put := slices.Repeat(edits{ed(0, 0, text)}, times)
		for name, l := range map[string]edits{
			"alone":                   put,
			"behind a short one":      slices.Concat(edits{ed(0, 0, "bc")}, put),
			"ahead of one taken":      slices.Concat(put, edits{ed(0, 1, "")}),
			"the last one takes, too": slices.Concat(put[1:], edits{ed(0, 1, text)}),
		} {
			if got, e := span.Apply("a", l); got != "" || e != api.ErrLong {
				t.Errorf("Apply of %d edits (%s): %d bytes, %d", times, name, len(got), e)
			}
			if got, e := span.Undo("a", l); len(got) != 0 || e != api.ErrLong {
				t.Errorf("Undo of %d edits (%s): %d edits, %d", times, name, len(got), e)
			}
		}
		crossed := append(put, ed(1, 0, ""))
		if got, e := span.Apply("a", crossed); got != "" || e != api.ErrCross {
			t.Errorf("Apply of %d edits, and one that may not stand: %d bytes, %d", times, len(got), e)
		}
		if got, e := span.Undo("a", crossed); len(got) != 0 || e != api.ErrCross {
			t.Errorf("Undo of %d edits, and one that may not stand: %d edits, %d", times, len(got), e)
		}
	}
}
