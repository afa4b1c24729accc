package farm_test

import (
	"fmt"
	"testing"

	"cordwood/api"
	"cordwood/farm"
)

func TestGreatest(t *testing.T) {
	var l []api.Worker
	for i := range 17 {
		l = append(l, worker(fmt.Sprintf("w%02d", i), 1, 1))
	}
	for k, x := range []struct {
		l              []api.Worker
		quorum, length int
		e              api.Errno
	}{{l[:16], 16, 1000, api.OK}, {l, 1, 1, api.ErrLimit}, {l[:1], 1, 1, api.OK}, {append(l[:1:1], l[0]), 1, 1, api.ErrOrder}} {
		if _, e := farm.New(x.l, x.quorum, x.length); e != x.e {
			t.Error("P48.1: New", k, e)
		}
	}
	f := newFarm(t, 1, 5, l[:1]...)
	for i := range 1000 {
		f = submit(t, f, ready(fmt.Sprint("let f @", i+1, " = 1 ;")))
	}
	if e := farm.Check(f); e != api.OK {
		t.Error("P48.1: 1000 jobs", e)
	}
}

func TestOutput(t *testing.T) {
	x := ready("?")
	f := submit(t, newFarm(t, 1, 5, worker("a", 1, 1)), x)
	if _, ok := farm.Output(f, x); ok {
		t.Error("P48.1: an open job has no output")
	}
	f, _ = tick(t, f)
	f, _ = tick(t, f)
	// A Ready with the same key, but with other files.
	forged := x
	forged.Files = []api.File{{Path: "source m", Data: "other"}}
	if _, ok := farm.Output(f, forged); ok {
		t.Error("P48.1: another Ready")
	}
	if _, ok := farm.Output(f, x); !ok {
		t.Error("P48.1: Output")
	}
}

func TestFreeWorkers(t *testing.T) {
	// While the first worker is busy, the second one gets the next job.
	f := newFarm(t, 1, 9, worker("ann", 1, 8), worker("bob", 1, 1))
	f = submit(t, f, ready("?"))
	f, _ = tick(t, f)
	f, _ = tick(t, f)
	f = submit(t, f, ready("use n ;"))
	f, _ = tick(t, f)
	if len(f.Leases.Leases) != 2 || f.Leases.Leases[1].Worker != "bob" || f.Leases.Leases[1].Job != f.Jobs[1].Key {
		t.Error("P48.1", f.Leases)
	}
}

func TestNoJobs(t *testing.T) {
	if o, ok := farm.Output(newFarm(t, 1, 5, worker("a", 1, 1)), ready("?")); ok || !same(o, api.Output{}) {
		t.Error("P48.1: a farm without jobs")
	}
	if _, ok := farm.Output(api.Farm{}, api.Ready{}); ok {
		t.Error("P48.1: not a farm")
	}
}
