package approval_test

import (
	"testing"

	"cordwood/api"
	"cordwood/approval"
)

func TestOtherChanges(t *testing.T) {
	old, new := files("OWNERS", rules, "x", "1"), files("OWNERS", rules, "x", "2")
	ann := approve(t, old, new, "ann", 2)
	l := []api.Approval{{Who: "ann", Change: 1}, ann, {Who: "bob", Change: 2}}
	if g, e := approval.Missing(l, 2, old, new); e != api.OK || len(g) != 0 {
		t.Error("P55.1: Missing", g, e)
	}
	if f := approval.Fallen(l, 2, old, new); len(f) != 1 || f[0].Who != "bob" {
		t.Error("P55.5", f)
	}
}
