package bind_test

import (
	"testing"

	"cordwood/api"
	"cordwood/bind"
)

func TestGreatestId(t *testing.T) {
	m := api.Module{Label: "m", Decls: []api.Decl{{Id: api.MaxId, Kind: 1, Names: []string{"a"}, Body: api.Expr{Kind: api.NilExpr}}}}
	if e := bind.Check(m); e != api.OK {
		t.Error("P24.1", e)
	}
	m.Decls[0].Id++
	if e := bind.Check(m); e != api.ErrRange {
		t.Error("P24.1", e)
	}
}
