package syntax_test

import (
	"testing"

	"cordwood/api"
	"cordwood/syntax"
)

func TestGreatest(t *testing.T) {
	for _, e := range []ex{num(999999999), num(-999999999), {Kind: api.ChanceExpr, Int: 0, Den: 1}, {Kind: api.ChanceExpr, Int: 1, Den: 1}, {Kind: api.ChanceExpr, Int: 5, Den: 999999}} {
		if err := syntax.CheckExpr(e); err != api.OK {
			t.Error("P21.1", e, err)
		}
	}
	if e := syntax.CheckSource(api.Source{Decls: []api.Decl{decl(api.MaxId, "a", num(1))}}); e != api.OK {
		t.Error("P21.1", e)
	}
}
