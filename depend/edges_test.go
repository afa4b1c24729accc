package depend_test

import (
	"testing"

	"cordwood/api"
	"cordwood/depend"
)

func TestSeveralModules(t *testing.T) {
	// A second module with the same label does not count, but those after it do.
	l := []api.Module{module("a", decl(1)), module("a", decl(2)), module("b", decl(3, ref("a", 1)))}
	if names, e := depend.Closure(l, name("b", 3)); e != api.OK || len(names) != 2 {
		t.Error("P40.1", names, e)
	}
	if _, e := depend.Closure(l, name("a", 2)); e != api.ErrNotFound {
		t.Error("P40.1", e)
	}
}
