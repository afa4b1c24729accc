package equal_test

import (
	"testing"

	"cordwood/api"
	"cordwood/equal"
)

func TestEqual(t *testing.T) {
	x := api.Expr{Kind: 1, Name: "a", Sub: []api.Expr{{Kind: 2}}}
	y := api.Expr{Kind: 1, Name: "a", Sub: []api.Expr{{Kind: 2, Den: 1}}}
	if !equal.Expr(x, x) || equal.Expr(x, y) || !equal.Expr(api.Expr{}, api.Expr{Sub: []api.Expr{}}) {
		t.Error("Expr")
	}
	a, b := api.Decl{Id: 1, Names: []string{"a"}, Body: x}, api.Decl{Id: 1, Names: []string{"a"}, Body: y}
	if !equal.Decl(a, a) || equal.Decl(a, b) || equal.Decl(a, api.Decl{Id: 1, Names: []string{"b"}, Body: x}) {
		t.Error("Decl")
	}
	m := api.Module{Label: "m", Decls: []api.Decl{a}}
	if !equal.Module(m, m) || equal.Module(m, api.Module{Label: "m", Decls: []api.Decl{b}}) || equal.Module(m, api.Module{Label: "m"}) {
		t.Error("Module")
	}
	l := api.Type{Kind: api.ListType, Sub: []api.Type{{Kind: api.IntType}}}
	if !equal.Type(l, l) || equal.Type(l, l.Sub[0]) {
		t.Error("Type")
	}
	r := api.Ready{Action: api.Action{Kind: 1, Inputs: []api.Input{{Name: "x"}}}, Files: []api.File{{Path: "x"}}}
	s := r
	s.Files = []api.File{{Path: "x", Data: "1"}}
	if !equal.Ready(r, r) || equal.Ready(r, s) || equal.Ready(r, api.Ready{Files: r.Files}) {
		t.Error("Ready")
	}
	if !equal.Output(api.Output{Files: r.Files}, api.Output{Files: r.Files}) || equal.Output(api.Output{Files: r.Files}, api.Output{}) {
		t.Error("Output")
	}
}
