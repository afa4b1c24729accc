package lease_test

import (
	"testing"

	"cordwood/api"
	"cordwood/lease"
)

func TestGreatest(t *testing.T) {
	x := api.Lease{Worker: "ann", Until: api.MaxInt, Epoch: api.MaxInt}
	l := api.Leases{Clock: api.MaxInt - 1, Epoch: api.MaxInt, Leases: []api.Lease{x}}
	if e := lease.Check(l); e != api.OK || !lease.Holds(l, x) {
		t.Error("P45.1: Check", e)
	}
	end, out, e := lease.Advance(l, api.MaxInt)
	if e != api.OK || len(out) != 1 || lease.Check(end) != api.OK {
		t.Error("P45.1: Advance", e)
	}
}

func TestSeveral(t *testing.T) {
	var l api.Leases
	for i := range 4 {
		l, _, _ = lease.Grant(l, api.Digest{uint64(i)}, "ann", 1+i%2)
	}
	next, out, e := lease.Advance(l, 1)
	if e != api.OK || len(out) != 2 || out[0] != l.Leases[0] || out[1] != l.Leases[2] || len(next.Leases) != 2 {
		t.Error("P45.1: Advance", out, e)
	}
}
