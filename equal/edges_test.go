package equal_test

import (
	"testing"

	"cordwood/api"
	"cordwood/equal"
)

func TestEachField(t *testing.T) {
	one := api.Expr{Kind: 1}
	d := api.Decl{Id: 1, Kind: 1, Names: []string{"a"}, Body: one}
	for k, f := range []func(d *api.Decl){func(d *api.Decl) { d.Id = 2 }, func(d *api.Decl) { d.Kind = 2 }, func(d *api.Decl) { d.Public = true }, func(d *api.Decl) { d.Doubt = true }, func(d *api.Decl) { d.Names = nil }, func(d *api.Decl) { d.Body = api.Expr{} }} {
		x := d
		f(&x)
		if equal.Decl(d, x) || equal.Decl(x, d) || !equal.Decl(x, x) {
			t.Error("Decl", k)
		}
	}
	for k, x := range []api.Expr{{Kind: 2}, {Kind: 1, Name: "a"}, {Kind: 1, More: "a"}, {Kind: 1, Int: 1}, {Kind: 1, Den: 1}, {Kind: 1, Sub: []api.Expr{one}}} {
		if equal.Expr(one, x) || !equal.Expr(x, x) {
			t.Error("Expr", k)
		}
	}
	for k, x := range []api.Type{{Kind: 2}, {Kind: 1, Var: 1}, {Kind: 1, Sub: []api.Type{{}}}} {
		if equal.Type(api.Type{Kind: 1}, x) || !equal.Type(x, x) {
			t.Error("Type", k)
		}
	}
	for k, x := range []api.Action{{Kind: 2}, {Kind: 1, Label: "a"}, {Kind: 1, Inputs: []api.Input{{}}}} {
		if equal.Action(api.Action{Kind: 1}, x) || !equal.Action(x, x) {
			t.Error("Action", k)
		}
	}
	for k, x := range []api.Output{{Failed: true}, {Message: "a"}, {Files: []api.File{{}}}} {
		if equal.Output(api.Output{}, x) || !equal.Output(x, x) {
			t.Error("Output", k)
		}
	}
	for k, x := range []api.Module{{Label: "a"}, {Uses: []string{"a"}}, {Decls: []api.Decl{d}}} {
		if equal.Module(api.Module{}, x) || !equal.Module(x, x) {
			t.Error("Module", k)
		}
	}
}
