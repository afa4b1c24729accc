package farm_test

import (
	"fmt"
	"math/rand"
	"slices"
	"testing"

	"cordwood/action"
	"cordwood/api"
	"cordwood/digest"
	"cordwood/farm"
	"cordwood/sandbox"
)

func same(a, b any) bool { return fmt.Sprintf("%q", a) == fmt.Sprintf("%q", b) }

func ready(source string) api.Ready {
	return api.Ready{Action: api.Action{Kind: api.CompileAction, Label: "m", Inputs: []api.Input{{Name: "source m", Digest: digest.Of(source)}}}, Files: []api.File{{Path: "source m", Data: source}}}
}

func worker(name string, kind, param int) api.Worker {
	return api.Worker{Name: name, Kind: kind, Param: param}
}

func newFarm(t *testing.T, quorum, length int, l ...api.Worker) api.Farm {
	t.Helper()
	f, e := farm.New(l, quorum, length)
	if e != api.OK || farm.Check(f) != api.OK {
		t.Fatal("P48.1: New", e)
	}
	return f
}

func submit(t *testing.T, f api.Farm, x api.Ready) api.Farm {
	t.Helper()
	f, e := farm.Submit(f, x)
	if e != api.OK {
		t.Fatal("P48.1: Submit", e)
	}
	return f
}

func tick(t *testing.T, f api.Farm) (api.Farm, []api.Digest) {
	t.Helper()
	next, done, e := farm.Tick(f)
	if e != api.OK || farm.Check(next) != api.OK || next.Leases.Clock != f.Leases.Clock+1 {
		t.Fatal("P48.5: Tick", e, farm.Check(next))
	}
	return next, done
}

func TestExample(t *testing.T) {
	f := newFarm(t, 2, 5, worker("ann", 1, 1), worker("bob", 3, 0), worker("cid", 1, 2))
	x := ready("let f @1 = 1 ;")
	f = submit(t, f, x)
	if again := submit(t, f, x); !same(again, f) || farm.Open(f) != 1 || farm.Bound(f) != 10 {
		t.Error("P48.6")
	}
	f, done := tick(t, f)
	if len(done) != 0 || len(f.Leases.Leases) != 3 || len(f.Flights) != 3 || f.Sent != 3 || f.Flights[2].Arrives != 3 {
		t.Error("P48.1", f.Leases, f.Flights)
	}
	f, done = tick(t, f)
	if len(done) != 0 || len(f.Ballots) != 1 || len(f.Ballots[0].Votes) != 2 || len(f.Leases.Leases) != 1 {
		t.Error("P48.1", f.Ballots)
	}
	f, done = tick(t, f)
	o, ok := farm.Output(f, x)
	want, _, _ := sandbox.Run(x)
	if !slices.Equal(done, []api.Digest{f.Jobs[0].Key}) || !ok || !same(o, want) || farm.Open(f) != 0 || farm.Bound(f) != 0 {
		t.Error("P48.1", done, ok)
	}
	for range 10 {
		if f, _ = tick(t, f); len(f.Leases.Leases) != 0 {
			t.Error("P48.5: no lease without open jobs")
		}
	}
	if o, ok := farm.Output(f, ready("other")); ok || !same(o, api.Output{}) {
		t.Error("P48.1: Output")
	}
}

func TestRandom(t *testing.T) {
	r := rand.New(rand.NewSource(1))
	for range 60 {
		quorum := 1 + r.Intn(3)
		length := 3 + r.Intn(5)
		var l []api.Worker
		for i := range quorum {
			l = append(l, worker(fmt.Sprint("h", i), 1, 1+r.Intn(length-1)))
		}
		for i := range r.Intn(quorum) {
			l = append(l, worker(fmt.Sprint("l", i), 3, r.Intn(2)))
		}
		for i := range r.Intn(4) {
			l = append(l, worker(fmt.Sprint("m", i), 2+2*r.Intn(2), 0))
			if l[len(l)-1].Kind == 4 {
				l[len(l)-1].Param = 1 + r.Intn(9)
			}
		}
		// Lost workers can have names before the others.
		for i := range l {
			l[i].Name = fmt.Sprint(r.Intn(10)) + l[i].Name
		}
		slices.SortFunc(l, func(a, b api.Worker) int {
			if a.Name < b.Name {
				return -1
			}
			return 1
		})
		f := newFarm(t, quorum, length, l...)
		var xs []api.Ready
		for i := range 1 + r.Intn(5) {
			xs = append(xs, ready([]string{"?", fmt.Sprintf("let f @%d = 1 ;", i+1), "use n ;"}[r.Intn(3)]))
			f = submit(t, f, xs[i])
		}
		known := map[api.Digest]string{}
		for bound := farm.Bound(f); bound > 0; bound-- {
			f, _ = tick(t, f)
			workers := map[string]bool{}
			for _, x := range f.Leases.Leases {
				if workers[x.Worker] {
					t.Error("P48.4: two leases")
				}
				workers[x.Worker] = true
			}
			for _, j := range f.Jobs {
				if s, ok := known[j.Key]; ok && (s != j.Output || !j.Done) {
					t.Error("P48.5: an output has changed")
				}
				if j.Done {
					known[j.Key] = j.Output
				}
			}
		}
		if farm.Open(f) != 0 {
			t.Error("P48.3", l, quorum, length)
		}
		for _, x := range xs {
			want, _, _ := sandbox.Run(x)
			if o, ok := farm.Output(f, x); !ok || !same(o, want) {
				t.Error("P48.2", l)
			}
		}
	}
}

func TestExpiry(t *testing.T) {
	// The answer comes when the lease has expired, so it has no effect; the worker gets the job again.
	f := submit(t, newFarm(t, 1, 2, worker("slow", 1, 3)), ready("?"))
	for range 20 {
		f, _ = tick(t, f)
	}
	if len(f.Ballots) != 0 || farm.Open(f) != 1 || f.Sent != 10 {
		t.Error("P48.4", f.Sent)
	}
	// A reply that arrives as the lease expires is too late, too.
	f = submit(t, newFarm(t, 1, 3, worker("slow", 1, 3)), ready("?"))
	for range 4 {
		f, _ = tick(t, f)
	}
	if len(f.Ballots) != 0 {
		t.Error("P48.4")
	}
	f.Flights = []api.Flight{{Lease: f.Leases.Leases[0], Data: "not an output", Arrives: 5}}
	if f, _ = tick(t, f); len(f.Ballots) != 0 || f.Leases.Leases[0].Epoch != 3 {
		t.Error("P48.1: no vote, but released", f.Leases)
	}
}

func TestCheck(t *testing.T) {
	x := ready("?")
	key, _ := action.Key(x.Action)
	o, _ := action.EncodeOutput(api.Output{Failed: true, Message: "parse"})
	good := newFarm(t, 1, 5, worker("a", 1, 1), worker("b", 1, 1))
	change := func(f func(x *api.Farm)) api.Farm {
		y := good
		y.Jobs = []api.Job{{Key: key, Ready: x}}
		f(&y)
		return y
	}
	held := api.Lease{Job: key, Worker: "a", Until: 3, Epoch: 1}
	other := held
	other.Job, other.Epoch = api.Digest{1}, 2
	many := make([]api.Worker, 17)
	for k, y := range []struct {
		f api.Farm
		e api.Errno
	}{
		{good, api.OK}, {api.Farm{}, api.ErrLimit}, {api.Farm{Workers: many}, api.ErrLimit}, {api.Farm{Workers: many[:1]}, api.ErrName}, {api.Farm{Workers: []api.Worker{good.Workers[1], good.Workers[0]}}, api.ErrOrder}, {change(func(x *api.Farm) { x.Quorum = 0 }), api.ErrRange}, {change(func(x *api.Farm) { x.Quorum = 3 }), api.ErrRange}, {change(func(x *api.Farm) { x.Length = 0 }), api.ErrRange}, {change(func(x *api.Farm) { x.Length = 1001 }), api.ErrRange}, {change(func(x *api.Farm) { x.Sent = -1; x.Jobs = make([]api.Job, 1001) }), api.ErrRange},
		{change(func(x *api.Farm) { x.Jobs = make([]api.Job, 1001) }), api.ErrFull}, {change(func(x *api.Farm) { x.Jobs[0].Ready.Files = nil }), api.ErrMismatch}, {change(func(x *api.Farm) { x.Jobs[0].Key = api.Digest{} }), api.ErrDigest}, {change(func(x *api.Farm) { x.Jobs = append(x.Jobs, x.Jobs[0]) }), api.ErrExists}, {change(func(x *api.Farm) { x.Jobs[0].Output = o }), api.ErrArgument}, {change(func(x *api.Farm) { x.Jobs[0].Done = true }), api.ErrDecode}, {change(func(x *api.Farm) { x.Jobs[0].Done = true; x.Jobs[0].Output = o }), api.OK},
		{change(func(x *api.Farm) { x.Ballots = []api.Ballot{{}} }), api.ErrArgument}, {change(func(x *api.Farm) { x.Leases.Clock = -1 }), api.ErrRange}, {change(func(x *api.Farm) { x.Leases = api.Leases{Epoch: 1, Leases: []api.Lease{held}} }), api.OK}, {change(func(x *api.Farm) { x.Leases = api.Leases{Epoch: 2, Leases: []api.Lease{held, other}} }), api.ErrNotFound}, {change(func(x *api.Farm) {
			x.Leases = api.Leases{Epoch: 2, Leases: []api.Lease{{Job: key, Worker: "z", Until: 3, Epoch: 1}}}
		}), api.ErrNotFound}, {change(func(x *api.Farm) { x.Flights = []api.Flight{{}} }), api.ErrRange}, {change(func(x *api.Farm) { x.Flights = []api.Flight{{Arrives: 1}} }), api.OK},
	} {
		if e := farm.Check(y.f); e != y.e {
			t.Error("P48.1: Check", k, e)
		}
	}
	two := submit(t, submit(t, good, x), ready("use n ;"))
	two.Leases = api.Leases{Epoch: 2, Leases: []api.Lease{held, {Job: two.Jobs[1].Key, Worker: "a", Until: 3, Epoch: 2}}}
	if e := farm.Check(two); e != api.ErrExists {
		t.Error("P48.1: Check", e)
	}
	if f, e := farm.New(good.Workers, 3, 5); e != api.ErrRange || !same(f, api.Farm{}) {
		t.Error("P48.1: New", e)
	}
}

func TestErrors(t *testing.T) {
	f := newFarm(t, 1, 5, worker("a", 1, 1))
	if g, e := farm.Submit(f, api.Ready{}); e != api.ErrKind || !same(g, api.Farm{}) {
		t.Error("P48.1: Submit", e)
	}
	x := ready("?")
	forged := submit(t, f, x)
	forged.Jobs[0].Ready.Files = []api.File{{Path: "source m", Data: "other"}}
	if g, e := farm.Submit(forged, x); e != api.ErrCollision || !same(g, api.Farm{}) {
		t.Error("P48.1: Submit", e)
	}
	full := f
	for i := range 1000 {
		full.Jobs = append(full.Jobs, api.Job{Key: api.Digest{uint64(i)}})
	}
	if g, e := farm.Submit(full, x); e != api.ErrFull || !same(g, api.Farm{}) {
		t.Error("P48.1: Submit", e)
	}
	f.Leases.Clock = 1 << 40
	if g, l, e := farm.Tick(f); e != api.ErrRange || len(l) != 0 || !same(g, api.Farm{}) {
		t.Error("P48.1: Tick", e)
	}
}
