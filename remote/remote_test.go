package remote_test

import (
	"fmt"
	"math/rand"
	"slices"
	"strings"
	"testing"

	"cordwood/api"
	"cordwood/build"
	"cordwood/farm"
	"cordwood/incremental"
	"cordwood/remote"
)

func same(a, b any) bool { return fmt.Sprintf("%q", a) == fmt.Sprintf("%q", b) }

func files(l ...string) []api.File {
	var f []api.File
	for i := 0; i < len(l); i += 2 {
		f = append(f, api.File{Path: l[i], Data: l[i+1]})
	}
	slices.SortFunc(f, func(a, b api.File) int { return strings.Compare(a.Path, b.Path) })
	return f
}

func newFarm(t *testing.T, quorum, length int, l ...api.Worker) api.Farm {
	t.Helper()
	f, e := farm.New(l, quorum, length)
	if e != api.OK {
		t.Fatal(e)
	}
	return f
}

func TestExample(t *testing.T) {
	l := files("BUILD", "lib a ;", "a.pk", "pub let f @1 = 2 ;")
	f := newFarm(t, 1, 5, api.Worker{Name: "ann", Kind: 1, Param: 1})
	var c []api.CacheEntry
	for tick := range 3 {
		var r api.Report
		var done bool
		var e api.Errno
		f, c, r, done, e = remote.Step(f, c, l)
		if e != api.OK || done != (tick == 2) || done && !same(r, build.Build(l)) || !done && !same(r, api.Report{}) {
			t.Error("P49.1", tick, done, e)
		}
	}
	if f.Leases.Clock != 2 || len(c) != 1 {
		t.Error("P49.1", f.Leases.Clock)
	}
	for ticks := range 4 {
		f, _, r, done, e := remote.Build(newFarm(t, 1, 5, api.Worker{Name: "ann", Kind: 1, Param: 1}), nil, l, ticks)
		if e != api.OK || done != (ticks >= 2) || f.Leases.Clock != min(ticks, 2) || done != same(r, build.Build(l)) {
			t.Error("P49.1", ticks, done, e)
		}
	}
}

func random(r *rand.Rand) []api.File {
	body := func(s ...string) string { return s[r.Intn(len(s))] }
	return files("BUILD", "lib a ; lib b deps a ; test t deps b ; test u deps a ;", "a.pk", "pub let f @1 = "+body("1", "2", "true", "?")+" ;", "b.pk", "use a ; pub let g @1 = "+body("a.f", "(a.f + 1)", "3")+" ;", "t.pk", "use b ; test x @1 = (b.g = "+body("2", "3")+") ;", "u.pk", body("", "use a ; test y @1 = (a.f < 2) ;", "use c ;"))
}

func TestRandom(t *testing.T) {
	r := rand.New(rand.NewSource(1))
	for range 60 {
		l := random(r)
		quorum, length := 1+r.Intn(2), 3+r.Intn(4)
		var w []api.Worker
		for i := range quorum {
			w = append(w, api.Worker{Name: fmt.Sprint("h", i), Kind: 1, Param: 1 + r.Intn(length-1)})
		}
		for i := range quorum - 1 {
			w = append(w, api.Worker{Name: fmt.Sprint("l", i), Kind: 3, Param: r.Intn(4)})
		}
		w = append(w, api.Worker{Name: "m", Kind: 2})
		f := newFarm(t, quorum, length, w...)
		bound := 2 * length * (1 + 1 + 3 + 3)
		g, c, report, done, e := remote.Build(f, nil, l, bound)
		if e != api.OK || !done || !same(report, build.Build(l)) || incremental.Check(c) != api.OK || farm.Check(g) != api.OK {
			t.Fatal("P49.2, P49.3", e, done)
		}
		if h, d, again, ok, e := remote.Step(g, c, l); e != api.OK || !ok || !same(again, report) || !same(h, g) || !same(d, c) {
			t.Error("P49.4", e)
		}
		if missing, again := incremental.Next(c, l); len(missing) != 0 || !same(again, report) {
			t.Error("P49.4")
		}
		n := r.Intn(bound)
		p, d, _, _, _ := remote.Build(f, nil, l, n)
		p, d, again, ok, e := remote.Build(p, d, l, bound-n)
		if e != api.OK || !ok || !same(again, report) || !same(p, g) || !same(d, c) {
			t.Error("P49.5", n, e)
		}
		var s api.Farm = f
		var k []api.CacheEntry
		for !ok || s.Leases.Clock < g.Leases.Clock {
			s, k, again, ok, _ = remote.Step(s, k, l)
		}
		if !same(s, g) {
			t.Error("P49.5: steps")
		}
	}
}

func TestErrors(t *testing.T) {
	l := files("BUILD", "lib a ;", "a.pk", "pub let f @1 = 2 ;")
	f := newFarm(t, 1, 5, api.Worker{Name: "ann", Kind: 1, Param: 1})
	for _, ticks := range []int{-1, 100001} {
		if g, c, r, ok, e := remote.Build(f, nil, l, ticks); e != api.ErrRange || ok || len(c) != 0 || !same(g, api.Farm{}) || !same(r, api.Report{}) {
			t.Error("P49.1: Build", e)
		}
	}
	late := f
	late.Leases.Clock = 1 << 40
	full := f
	full.Jobs = make([]api.Job, 1000)
	for k, x := range []struct {
		f api.Farm
		e api.Errno
	}{{late, api.ErrRange}, {full, api.ErrFull}} {
		if g, c, r, ok, e := remote.Step(x.f, nil, l); e != x.e || ok || len(c) != 0 || !same(g, api.Farm{}) || !same(r, api.Report{}) {
			t.Error("P49.1: Step", k, e)
		}
		if g, c, r, ok, e := remote.Build(x.f, nil, l, 9); e != x.e || ok || len(c) != 0 || !same(g, api.Farm{}) || !same(r, api.Report{}) {
			t.Error("P49.1: Build", k, e)
		}
		if _, _, _, ok, e := remote.Build(x.f, nil, l, 0); e != api.OK || ok {
			t.Error("P49.1: Build without a tick", k, e)
		}
	}
	if _, _, r, ok, e := remote.Step(f, nil, files("BUILD", "?")); e != api.OK || !ok || r.Err != api.ErrSyntax {
		t.Error("P49.1: a tree that can't be loaded", e)
	}
}
