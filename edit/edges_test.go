package edit_test

import (
	"testing"

	"cordwood/api"
	"cordwood/edit"
)

func TestRemoveModule(t *testing.T) {
	remove := []api.Edit{{Kind: api.RemoveModule, Pack: "m"}}
	for s, want := range map[string]api.Errno{"": api.OK, "use x ;": api.ErrConflict, "let f @1 = 1 ;": api.ErrConflict, "use x ; let f @1 = 1 ;": api.ErrConflict} {
		if _, e := edit.Apply([]api.Module{module(t, "m", s)}, remove); e != want {
			t.Error("P34.1: Apply", s, e)
		}
	}
}
