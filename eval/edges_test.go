package eval_test

import (
	"testing"

	"cordwood/api"
	"cordwood/eval"
)

func TestGreatest(t *testing.T) {
	for s, want := range map[string]string{"(999999998 + 1)": "999999999", "(-999999998 - 1)": "-999999999", "(999999999 * -1)": "-999999999", "999999999": "999999999"} {
		v, _, e := eval.Eval(expr(t, s), nil, "", 10, 0)
		if text, f := eval.Print(v); e != api.OK || f != api.OK || text != want {
			t.Error("P27.1", s, text, e, f)
		}
	}
}
