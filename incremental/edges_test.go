package incremental_test

import (
	"testing"

	"cordwood/api"
	"cordwood/incremental"
)

func TestOpen(t *testing.T) {
	// One dependence is open, and the other one is Ok: in both orders, the target is open.
	l := files("BUILD", "lib a ; lib b ; lib y deps a b ; lib z deps b a ;", "a.pk", "", "b.pk", "", "y.pk", "use a ; use b ;", "z.pk", "use a ; use b ;")
	c, _, _ := incremental.Build(nil, l)
	for _, label := range []string{"a", "b"} {
		var less []api.CacheEntry
		for _, x := range c {
			if x.Ready.Action.Label != label {
				less = append(less, x)
			}
		}
		if m, _ := incremental.Next(less, l); len(m) != 1 || m[0].Action.Label != label {
			t.Error("P44.1", label, len(m))
		}
		// Nothing that belongs to an open target is used.
		if kept := incremental.Trim(less, l); len(kept) != 1 {
			t.Error("P44.1: Trim", label, len(kept))
		}
	}
}
