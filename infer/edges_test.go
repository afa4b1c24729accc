package infer_test

import (
	"testing"

	"cordwood/api"
	"cordwood/infer"
)

func TestScope(t *testing.T) {
	// The interface is known, but the module does not use it.
	m := api.Module{Label: "me", Decls: []api.Decl{{Id: 4, Kind: 1, Names: []string{"a"}, Body: api.Expr{Kind: api.RefExpr, Name: "a/m", Int: 1}}}}
	if l, id, e := infer.Module(m, known(t)); e != api.ErrScope || id != 4 || len(l) != 0 {
		t.Error("P25.1", id, e)
	}
	m.Uses = []string{"a/m"}
	l, _, e := infer.Module(m, known(t))
	if e != api.OK || !infer.Typed(m, known(t), l) {
		t.Error("P25.1", e)
	}
	if infer.Typed(m, known(t), append(l, l[0])) || infer.Typed(m, known(t), nil) || infer.Typed(m, nil, l) {
		t.Error("P25.1: Typed")
	}
}

func TestGreatestType(t *testing.T) {
	// A list in a list, and so on, of 200 types, or of one more.
	decl := func(id int, refs int) api.Decl {
		e := api.Expr{Kind: api.IntExpr, Int: 1}
		if refs > 0 {
			e = api.Expr{Kind: api.RefExpr, Int: refs}
		}
		for range 19 {
			e = api.Expr{Kind: api.ConsExpr, Sub: []api.Expr{e, {Kind: api.NilExpr}}}
		}
		return api.Decl{Id: id, Kind: 1, Names: []string{"f" + string(rune('a'+id))}, Body: e}
	}
	m := api.Module{Label: "m"}
	for id := 1; id <= 10; id++ {
		m.Decls = append(m.Decls, decl(id, id-1))
	}
	// The last one has 1 + 10 * 19 = 191 types.
	last := api.Expr{Kind: api.RefExpr, Int: 10}
	for n := 192; n <= 201; n++ {
		last = api.Expr{Kind: api.ConsExpr, Sub: []api.Expr{last, {Kind: api.NilExpr}}}
		x := m
		x.Decls = append(x.Decls[:10:10], api.Decl{Id: 11, Kind: 1, Names: []string{"z"}, Body: last})
		_, id, e := infer.Module(x, nil)
		if n <= 200 && e != api.OK || n > 200 && (e != api.ErrLimit || id != 11) {
			t.Error("P25.1", n, id, e)
		}
	}
}
