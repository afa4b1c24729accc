package settle_test

import (
	"fmt"
	"testing"

	"cordwood/api"
	"cordwood/pool"
	"cordwood/settle"
)

func TestTexts(t *testing.T) {
	var m api.Merged
	for i := range 200 {
		m.Texts = append(m.Texts, api.TextConflict{Path: fmt.Sprintf("t%03d", i)})
	}
	if e := settle.Check(m); e != api.OK || len(settle.List(m)) != 200 {
		t.Error("P37.1", e)
	}
	if e := settle.Check(api.Merged{Texts: []api.TextConflict{{Path: "a"}, {Path: "a"}}}); e != api.ErrOrder {
		t.Error("P37.1", e)
	}
	for _, side := range []int{-1, 3} {
		if x, e := settle.Choose(m, 0, side); e != api.ErrRange || !same(x, api.Merged{}) {
			t.Error("P37.1: Choose", side, e)
		}
	}
	// Zero is not negative.
	zero := api.Merged{Modules: []api.Module{{Label: "m", Decls: []api.Decl{{Id: 1, Kind: 1, Names: []string{"f"}, Body: api.Expr{Kind: api.NilExpr}}}}}}
	p, d, _ := settle.Store(nil, zero)
	if o, e := pool.Get(p, d); e != api.OK || o.Data != "\x01\x01m\x00\x01\x01\x01\x00\x01\x01f\x00\x0b\x00\x00\x00\x00\x00\x00\x00\x00" {
		t.Errorf("P37.1: %q %d", o.Data, e)
	}
}
