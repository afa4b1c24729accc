package lookup_test

import (
	"testing"

	"cordwood/api"
	"cordwood/lookup"
)

func TestByName(t *testing.T) {
	x := api.Interface{Sigs: []api.Sig{{Id: 1, Name: "f"}, {Id: api.MaxId, Name: "g"}, {Id: api.MaxId + 1, Name: "h"}}}
	for name, want := range map[string]int{"f": 1, "g": api.MaxId, "h": 0, "k": 0} {
		if s, ok := lookup.ByName(x, name); s.Id != want || ok != (want != 0) {
			t.Error("P24.1", name, s)
		}
	}
	if s, ok := lookup.ById(x, api.MaxId); !ok || s.Name != "g" {
		t.Error("P24.1", s)
	}
}
