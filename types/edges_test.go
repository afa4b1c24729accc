package types_test

import (
	"testing"

	"cordwood/api"
	"cordwood/types"
)

func TestAssignments(t *testing.T) {
	for n, want := range map[int]api.Errno{-1: api.ErrRange, api.MaxId + 1: api.ErrRange, api.MaxId: api.OK, 0: api.OK} {
		if _, e := types.Apply([]api.Assign{{Var: n, Type: integer}}, integer); e != want {
			t.Error("P23.1: Apply", n, e)
		}
	}
	for _, x := range [][2]typ{{v(0), list(v(0))}, {fun(v(0), v(1)), fun(list(v(1)), list(v(0)))}, {fun(v(0), v(0)), fun(v(1), list(v(1)))}} {
		if l, e := types.Unify(x[0], x[1]); e != api.ErrType || len(l) != 0 {
			t.Error("P23.1: Unify", x, e)
		}
	}
	if _, n, e := types.Open(api.Scheme{Vars: 1, Type: v(0)}, 0); e != api.OK || n != 1 {
		t.Error("P23.1: Open", n, e)
	}
}
