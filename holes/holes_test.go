package holes_test

import (
	"testing"

	"emend/api"
	"emend/holes"
)

func TestAt(t *testing.T) {
	s := holes.NewSet([]api.Hole{{Name: "x", Kind: api.HExpr}, {Name: "s", Kind: api.HStmt}})
	name := func(w string) api.Part { return api.Part{Kind: api.KName, Word: w} }
	stmt := api.Part{Kind: api.KExprStmt, Kids: 1}
	for i, c := range []struct {
		l    []api.Part
		want int
	}{{[]api.Part{name("x")}, 0}, {[]api.Part{name("s")}, -1}, {[]api.Part{name("y")}, -1}, {[]api.Part{stmt, name("s")}, 1}, {[]api.Part{stmt, name("x")}, -1}, {[]api.Part{{Kind: api.KEmpty}}, -1}} {
		if got := s.At(c.l, 0); got != c.want {
			t.Errorf("%d: At = %d, want %d", i, got, c.want)
		}
	}
}
