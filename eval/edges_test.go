package eval_test

import (
	"testing"

	"cordwood/api"
	"cordwood/eval"
)

func TestGreatest(t *testing.T) {
	for s, want := range map[string]string{"(999999998 + 1)": "999999999", "(-999999998 - 1)": "-999999999", "(999999999 * -1)": "-999999999", "999999999": "999999999"} {
		v, _, e := eval.Eval(expr(t, s), nil, "", 10, 0)
		if text, f := eval.Print(v); e != api.OK || f != api.OK || text != want {
			t.Error("P27.1", s, text, e, f)
		}
	}
}

func TestSeeds(t *testing.T) {
	e := expr(t, "((chance 1 of 2) :: ((chance 1 of 3) :: ((chance 2 of 5) :: nil)))")
	for i := range uint64(40) {
		seed := i*0x9e3779b97f4a7c15 + 12345
		v, _, err := eval.Eval(e, nil, "", 100, seed)
		for k, x := range [][2]uint64{{1, 2}, {1, 3}, {2, 5}} {
			seed = seed*6364136223846793005 + 1442695040888963407
			if err != api.OK || (v.List[k].Int == 1) != (seed>>33%x[1] < x[0]) {
				t.Error("P27.1: chance", i, k)
			}
		}
	}
}

func TestSeveralModules(t *testing.T) {
	l := modules(t, "let a @1 = 1 ;", "let b @2 = 2 ;")
	again := []api.Module{l[0], {Label: "m0"}, l[1]}
	if v, _, e := eval.Decl(again, api.Name{Pack: "m1", Id: 2}, 9, 0); e != api.OK || v.Int != 2 {
		t.Error("P27.1", v, e)
	}
	if v, _, e := eval.Eval(api.Expr{Kind: api.RefExpr, Name: "m1", Int: 2}, again, "m0", 9, 0); e != api.OK || v.Int != 2 {
		t.Error("P27.1", v, e)
	}
}
