package repomerge_test

import (
	"testing"

	"cordwood/api"
)

func TestMissing(t *testing.T) {
	// An empty file is not a missing one.
	for k, x := range []struct{ base, left, right []api.File }{
		{files("n", "x\n"), nil, files("n", "")}, {files("n", "x\n"), files("n", ""), nil}, {nil, files("n", ""), files("n", "a")}, {nil, files("n", "a"), files("n", "")}, {files("n", ""), nil, files("n", "a")},
	} {
		if m := merge(t, x.base, x.left, x.right); len(m.Texts) != 1 || len(m.Files) != 0 {
			t.Error("P36.1", k, m)
		}
	}
	if m := merge(t, nil, files("a.pk", "", "b.pk", "use a ;"), nil); len(m.Modules) != 2 {
		t.Error("P36.1", m)
	}
	// A module that one side has removed, and the other one has changed, has only uses left.
	if m := merge(t, files("a.pk", "", "b.pk", ""), files("a.pk", ""), files("a.pk", "", "b.pk", "use a ;")); len(m.Modules) != 2 || len(m.Modules[1].Uses) != 1 {
		t.Error("P36.1", m)
	}
}
