package bind_test

import (
	"testing"

	"cordwood/api"
	"cordwood/bind"
	"cordwood/digest"
)

func TestGreatestId(t *testing.T) {
	m := api.Module{Label: "m", Decls: []api.Decl{{Id: api.MaxId, Kind: 1, Names: []string{"a"}, Body: api.Expr{Kind: api.NilExpr}}}}
	if e := bind.Check(m); e != api.OK {
		t.Error("P24.1", e)
	}
	m.Decls[0].Id++
	if e := bind.Check(m); e != api.ErrRange {
		t.Error("P24.1", e)
	}
}

func TestNumbers(t *testing.T) {
	// Two declarations for which the same number is looked for.
	f := api.Source{}
	for _, s := range []string{"x", "y"} {
		f.Decls = append(f.Decls, api.Decl{Kind: 1, Names: []string{"a", s, s}, Body: api.Expr{Kind: api.NilExpr}})
	}
	n := 1 + int(digest.Of("a")[0]%api.MaxId)
	g, e := bind.Number(f, api.Source{})
	if e != api.OK || g.Decls[0].Id != n || g.Decls[1].Id != n+1 || g.Decls[0].Names[1] != "x" {
		t.Error("P24.1: Number", g, e)
	}
	old := parse(t, "let a @1 = 1 ;")
	if g, e := bind.Number(parse(t, "let a = 1 ;"), old); e != api.OK || g.Decls[0].Id != 1 {
		t.Error("P24.1: Number", g, e)
	}
}
