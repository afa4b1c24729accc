package pool_test

import (
	"fmt"
	"math/rand"
	"slices"
	"testing"

	"cordwood/api"
	"cordwood/digest"
	"cordwood/object"
	"cordwood/pool"
)

func same(a, b any) bool { return fmt.Sprintf("%q", a) == fmt.Sprintf("%q", b) }

// history puts blobs, trees and commits that refer to earlier objects, or to missing ones.
func history(t *testing.T, r *rand.Rand, n int) (api.Pool, []api.Object, []api.Digest) {
	t.Helper()
	var p api.Pool
	var objects []api.Object
	ds := []api.Digest{{7, 7}}
	for i := range n {
		pick := func() api.Digest { return ds[r.Intn(len(ds))] }
		o := api.Object{Kind: api.BlobObject, Data: fmt.Sprint("data", i)}
		switch r.Intn(3) {
		case 0:
			o = api.Object{Kind: api.TreeObject, Entries: []api.Entry{{Name: fmt.Sprint("a", i), Digest: pick()}, {Name: "b", Dir: true, Digest: pick()}}}
		case 1:
			o = api.Object{Kind: api.CommitObject, Tree: pick(), Parents: []api.Digest{pick()}, Author: "ann", Time: i}
		}
		q, d, e := pool.Put(p, o)
		if e != api.OK || pool.Check(q) != api.OK {
			t.Fatal("P8.1: Put", e)
		}
		p, objects, ds = q, append(objects, o), append(ds, d)
	}
	return p, objects, ds[1:]
}

func TestContents(t *testing.T) {
	r := rand.New(rand.NewSource(1))
	p, objects, ds := history(t, r, 30)
	for i, o := range objects {
		if x, e := pool.Get(p, ds[i]); e != api.OK || !same(x, o) || !pool.Has(p, ds[i]) {
			t.Error("P8.2", i, e)
		}
		if q, d, e := pool.Put(p, o); e != api.OK || d != ds[i] || !same(q, p) {
			t.Error("P8.1: Put again", e)
		}
	}
	var q api.Pool
	for _, i := range r.Perm(len(objects)) {
		s, _ := object.Encode(objects[i])
		var e api.Errno
		if q, e = pool.Add(q, ds[i], s); e != api.OK {
			t.Error("P8.3", e)
		}
	}
	if !same(p, q) {
		t.Error("P8.2: order")
	}
	if x, e := pool.Get(p, api.Digest{1, 2}); e != api.ErrNotFound || !same(x, api.Object{}) || pool.Has(p, api.Digest{}) {
		t.Error("P8.1", e)
	}
	if q, d, e := pool.Put(p, api.Object{}); e != api.ErrKind || len(q) != 0 || d != (api.Digest{}) {
		t.Error("P8.1", e)
	}
	if q, e := pool.Add(p, digest.Of("x"), "x"); e != api.ErrDecode || len(q) != 0 {
		t.Error("P8.3", e)
	}
	if q, e := pool.Add(p, api.Digest{1}, "\x02\x00"); e != api.ErrDigest || len(q) != 0 {
		t.Error("P8.3", e)
	}
}

func TestCollision(t *testing.T) {
	// A pool with a forged item stands for two strings with the same digest.
	d := digest.Of("\x02\x00")
	forged := api.Pool{{Digest: d, Data: "\x01\x00"}}
	if p, e := pool.Add(forged, d, "\x02\x00"); e != api.ErrCollision || len(p) != 0 {
		t.Error("P8.1", e)
	}
	if p, x, e := pool.Put(forged, api.Object{Kind: api.TreeObject}); e != api.ErrCollision || len(p) != 0 || x != (api.Digest{}) {
		t.Error("P8.1", e)
	}
	if p, e := pool.Union(forged, api.Pool{{Digest: d, Data: "\x02\x00"}}); e != api.ErrCollision || len(p) != 0 {
		t.Error("P8.1", e)
	}
}

func TestReach(t *testing.T) {
	r := rand.New(rand.NewSource(2))
	for range 20 {
		p, _, ds := history(t, r, 20)
		roots := []api.Digest{ds[r.Intn(20)], ds[r.Intn(20)], {}, {9, 9}}
		reached, missing := pool.Reach(p, roots)
		all := slices.Concat(roots, reached)
		if !slices.IsSortedFunc(reached, digest.Compare) || !slices.Contains(missing, api.Digest{9, 9}) || slices.Contains(missing, api.Digest{}) {
			t.Error("P8.1")
		}
		named := map[api.Digest]bool{}
		for _, d := range roots {
			named[d] = true
		}
		for _, d := range reached {
			o, e := pool.Get(p, d)
			if e != api.OK {
				t.Error("P8.4", e)
			}
			for _, x := range object.Links(o) {
				named[x] = true
				if !slices.Contains(all, x) && !slices.Contains(missing, x) {
					t.Error("P8.4")
				}
			}
		}
		for _, d := range slices.Concat(reached, missing) {
			if !named[d] {
				t.Error("P8.4: not named")
			}
		}
		kept := pool.Keep(p, reached)
		again, miss := pool.Reach(kept, roots)
		if len(kept) != len(reached) || !slices.Equal(again, reached) || !slices.Equal(miss, missing) {
			t.Error("P8.4: within themselves")
		}
		var rest []api.Digest
		for _, x := range p {
			if !slices.Contains(reached, x.Digest) {
				rest = append(rest, x.Digest)
			}
		}
		a, e := pool.Union(kept, pool.Keep(p, rest))
		b, f := pool.Union(p, kept)
		if e != api.OK || f != api.OK || !same(a, p) || !same(b, p) {
			t.Error("P8.5", e, f)
		}
	}
	blob := api.Digest{3, 4}
	p, d, _ := pool.Put(nil, api.Object{Kind: api.TreeObject, Entries: []api.Entry{{Name: "a", Digest: blob}}})
	if l, m := pool.Reach(p, []api.Digest{d}); !slices.Equal(l, []api.Digest{d}) || !slices.Equal(m, []api.Digest{blob}) {
		t.Error("P8.1", l, m)
	}
}

func TestCheck(t *testing.T) {
	a, b := api.Item{Digest: digest.Of("\x01\x00"), Data: "\x01\x00"}, api.Item{Digest: digest.Of("\x02\x00"), Data: "\x02\x00"}
	if digest.Compare(a.Digest, b.Digest) > 0 {
		a, b = b, a
	}
	for k, x := range []struct {
		p api.Pool
		e api.Errno
	}{
		{nil, api.OK}, {api.Pool{a, b}, api.OK}, {api.Pool{b, a}, api.ErrOrder}, {api.Pool{a, a}, api.ErrOrder},
		{api.Pool{{Data: "x"}}, api.ErrDecode}, {api.Pool{{Data: "\x02\x00"}}, api.ErrDigest}, {api.Pool{b, {Digest: a.Digest, Data: b.Data}}, api.ErrDigest},
	} {
		if e := pool.Check(x.p); e != x.e {
			t.Error("P8.1: Check", k, e)
		}
	}
}
