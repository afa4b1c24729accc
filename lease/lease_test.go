package lease_test

import (
	"fmt"
	"math/rand"
	"slices"
	"testing"

	"cordwood/api"
	"cordwood/lease"
)

func same(a, b any) bool { return fmt.Sprint(a) == fmt.Sprint(b) }

func TestExample(t *testing.T) {
	l := api.Leases{Clock: 5}
	l, x, e := lease.Grant(l, api.Digest{1}, "ann", 3)
	if e != api.OK || x != (api.Lease{Job: api.Digest{1}, Worker: "ann", Until: 8, Epoch: 1}) || l.Epoch != 1 {
		t.Error("P45.1", x, e)
	}
	at7, out, e := lease.Advance(l, 7)
	if e != api.OK || len(out) != 0 || !lease.Holds(at7, x) || at7.Clock != 7 {
		t.Error("P45.3", e)
	}
	at8, out, e := lease.Advance(l, 8)
	if e != api.OK || !slices.Equal(out, []api.Lease{x}) || lease.Holds(at8, x) || len(at8.Leases) != 0 {
		t.Error("P45.3", e)
	}
	at6, _, _ := lease.Advance(l, 6)
	at6, y, e := lease.Renew(at6, x, 4)
	if e != api.OK || lease.Holds(at6, x) || !lease.Holds(at6, y) || y.Until != 10 || y.Epoch != 2 {
		t.Error("P45.1", y, e)
	}
	at9, _, _ := lease.Advance(at6, 9)
	if !lease.Holds(at9, y) {
		t.Error("P45.3")
	}
}

func TestRandom(t *testing.T) {
	r := rand.New(rand.NewSource(1))
	for range 50 {
		var l api.Leases
		var old []api.Lease
		for range 60 {
			worker, job, length := []string{"ann", "bob"}[r.Intn(2)], api.Digest{uint64(r.Intn(2))}, 1+r.Intn(4)
			next, x, e := lease.Grant(l, job, worker, length)
			if len(l.Leases) > 0 && r.Intn(2) == 0 {
				y := l.Leases[r.Intn(len(l.Leases))]
				if r.Intn(2) == 0 {
					next, x, e = lease.Renew(l, y, length)
				} else {
					next, e = lease.Release(l, y)
					x = api.Lease{}
				}
			} else if r.Intn(2) == 0 {
				next, _, e = lease.Advance(l, l.Clock+r.Intn(3))
				x = api.Lease{}
			}
			if e != api.OK {
				if e != api.ErrExists || !same(next, api.Leases{}) {
					t.Fatal("P45.1", e)
				}
				continue
			}
			if lease.Check(next) != api.OK {
				t.Error("P45.2")
			}
			for _, y := range old {
				if lease.Holds(next, y) && !lease.Holds(l, y) || x.Epoch != 0 && y.Epoch == x.Epoch {
					t.Error("P45.4")
				}
				if lease.Holds(next, y) != slices.Contains(next.Leases, y) || lease.Holds(next, y) && next.Clock >= y.Until {
					t.Error("P45.3")
				}
			}
			if x.Epoch != 0 {
				old = append(old, x)
			}
			for i, y := range next.Leases {
				for _, z := range next.Leases[:i] {
					if y.Job == z.Job && y.Worker == z.Worker {
						t.Error("P45.5")
					}
				}
			}
			l = next
		}
	}
}

func TestErrors(t *testing.T) {
	x := api.Lease{Worker: "ann", Until: 5, Epoch: 3}
	with := func(l ...api.Lease) api.Leases { return api.Leases{Clock: 4, Epoch: 9, Leases: l} }
	many := with()
	many.Epoch = 300
	for i := range 257 {
		many.Leases = append(many.Leases, api.Lease{Job: api.Digest{uint64(i)}, Worker: "ann", Until: 5, Epoch: i + 1})
	}
	full := many
	full.Leases = many.Leases[:256]
	for k, y := range []struct {
		t api.Leases
		e api.Errno
	}{
		{api.Leases{}, api.OK}, {api.Leases{Clock: -1}, api.ErrRange}, {api.Leases{Clock: 1<<40 + 1}, api.ErrRange}, {api.Leases{Epoch: -1}, api.ErrRange}, {api.Leases{Epoch: 1<<40 + 1, Leases: make([]api.Lease, 257)}, api.ErrRange}, {many, api.ErrLimit}, {full, api.OK}, {with(x), api.OK},
		{with(api.Lease{Until: 5, Epoch: 3}), api.ErrName}, {with(api.Lease{Worker: "a", Until: 4, Epoch: 3}), api.ErrRange}, {with(api.Lease{Worker: "a", Until: 1<<40 + 1, Epoch: 3}), api.ErrRange}, {with(api.Lease{Worker: "a", Until: 5}), api.ErrRange}, {with(api.Lease{Worker: "a", Until: 5, Epoch: 10}), api.ErrRange}, {with(x, x), api.ErrOrder}, {with(x, api.Lease{Worker: "ann", Until: 6, Epoch: 4}), api.ErrExists},
	} {
		if e := lease.Check(y.t); e != y.e {
			t.Error("P45.1: Check", k, e)
		}
		if y.e == api.OK {
			continue
		}
		if l, z, e := lease.Grant(y.t, api.Digest{}, "", 0); e != api.ErrArgument || z != (api.Lease{}) || !same(l, api.Leases{}) {
			t.Error("P45.1: Grant", k, e)
		}
		if l, z, e := lease.Renew(y.t, x, 0); e != api.ErrArgument || z != (api.Lease{}) || !same(l, api.Leases{}) {
			t.Error("P45.1: Renew", k, e)
		}
		if l, e := lease.Release(y.t, x); e != api.ErrArgument || !same(l, api.Leases{}) {
			t.Error("P45.1: Release", k, e)
		}
		if l, out, e := lease.Advance(y.t, -1); e != api.ErrArgument || len(out) != 0 || !same(l, api.Leases{}) {
			t.Error("P45.1: Advance", k, e)
		}
		if lease.Holds(y.t, x) {
			t.Error("P45.1: Holds", k)
		}
	}
	last := with(x)
	last.Epoch = 1 << 40
	for k, y := range []struct {
		t      api.Leases
		worker string
		length int
		e      api.Errno
	}{{full, "..", 0, api.ErrName}, {full, "ann", 0, api.ErrRange}, {full, "ann", 1<<40 - 3, api.ErrRange}, {full, "ann", 1<<63 - 1, api.ErrRange}, {full, "ann", 1, api.ErrExists}, {full, "bob", 1, api.ErrFull}, {last, "ann", 1, api.ErrExists}, {last, "bob", 1, api.ErrLimit}, {with(x), "bob", 1<<40 - 4, api.OK}} {
		if _, _, e := lease.Grant(y.t, api.Digest{}, y.worker, y.length); e != y.e {
			t.Error("P45.1: Grant", k, e)
		}
	}
	other := x
	other.Until = 6
	for k, y := range []struct {
		t      api.Leases
		x      api.Lease
		length int
		e      api.Errno
	}{{last, other, 0, api.ErrExpired}, {last, x, 0, api.ErrRange}, {last, x, 1, api.ErrLimit}, {full, full.Leases[7], 1, api.OK}} {
		if _, _, e := lease.Renew(y.t, y.x, y.length); e != y.e {
			t.Error("P45.1: Renew", k, e)
		}
	}
	if _, e := lease.Release(last, other); e != api.ErrExpired {
		t.Error("P45.1: Release", e)
	}
	for _, clock := range []int{3, 1<<40 + 1, -1} {
		if _, _, e := lease.Advance(last, clock); e != api.ErrRange {
			t.Error("P45.1: Advance", e)
		}
	}
}
