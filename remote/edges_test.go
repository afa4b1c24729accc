package remote_test

import (
	"testing"

	"cordwood/api"
	"cordwood/remote"
)

func TestMostTicks(t *testing.T) {
	l := files("BUILD", "lib a ;", "a.pk", "pub let f @1 = 2 ;")
	f := newFarm(t, 1, 5, api.Worker{Name: "ann", Kind: 1, Param: 1})
	if g, _, _, ok, e := remote.Build(f, nil, l, api.MaxSteps); e != api.OK || !ok || g.Leases.Clock != 2 {
		t.Error("P49.1", ok, e)
	}
}
