package lookup_test

import (
	"testing"

	"cordwood/api"
	"cordwood/lookup"
)

func TestFirst(t *testing.T) {
	one := api.Interface{Label: "m", Sigs: []api.Sig{{Id: 0, Name: "f"}, {Id: 1, Name: "if"}, {Id: 1, Name: "f"}, {Id: 2, Name: "f"}, {Id: 1, Name: "g"}}}
	if x, ok := lookup.Interface([]api.Interface{one, {Label: "m"}}, "m"); !ok || len(x.Sigs) != 5 {
		t.Error("P24.1: the first interface with a label")
	}
	if _, ok := lookup.Interface([]api.Interface{one}, "n"); ok {
		t.Error("P24.1: no interface")
	}
	if s, ok := lookup.ById(one, 1); !ok || s.Name != "f" {
		t.Error("P24.1: signatures that count", s)
	}
	if s, ok := lookup.ByName(one, "f"); !ok || s.Id != 1 {
		t.Error("P24.1: signatures that count", s)
	}
	if s, ok := lookup.ByName(one, "g"); !ok || s.Id != 1 {
		t.Error("P24.1: a name of its own", s)
	}
	if _, ok := lookup.ById(one, 0); ok {
		t.Error("P24.1: an id out of range")
	}
}

func TestClosed(t *testing.T) {
	v := func(n int) api.Type { return api.Type{Kind: api.VarType, Var: n} }
	for k, x := range []struct {
		s  api.Scheme
		ok bool
	}{{api.Scheme{}, false}, {api.Scheme{Vars: 1, Type: v(0)}, true}, {api.Scheme{Type: v(0)}, false}, {api.Scheme{Vars: 1, Type: v(1)}, false}, {api.Scheme{Type: api.Type{Kind: api.IntType}}, true}} {
		if lookup.Closed(x.s) != x.ok {
			t.Error("P25.1", k)
		}
	}
}
