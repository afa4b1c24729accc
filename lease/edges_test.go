package lease_test

import (
	"testing"

	"cordwood/api"
	"cordwood/lease"
)

func TestGreatest(t *testing.T) {
	x := api.Lease{Worker: "ann", Until: api.MaxInt, Epoch: api.MaxInt}
	l := api.Leases{Clock: api.MaxInt - 1, Epoch: api.MaxInt, Leases: []api.Lease{x}}
	if e := lease.Check(l); e != api.OK || !lease.Holds(l, x) {
		t.Error("P45.1: Check", e)
	}
	end, out, e := lease.Advance(l, api.MaxInt)
	if e != api.OK || len(out) != 1 || lease.Check(end) != api.OK {
		t.Error("P45.1: Advance", e)
	}
}
