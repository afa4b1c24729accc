package history_test

import (
	"fmt"
	"math/rand"
	"slices"
	"testing"

	"cordwood/api"
	"cordwood/digest"
	"cordwood/history"
	"cordwood/pool"
)

type digests = []api.Digest

func commit(t *testing.T, p api.Pool, time int, parents ...api.Digest) (api.Pool, api.Digest) {
	t.Helper()
	p, d, e := pool.Put(p, api.Object{Kind: api.CommitObject, Tree: api.Digest{1}, Parents: parents, Author: "ann", Time: time})
	if e != api.OK {
		t.Fatal(e)
	}
	return p, d
}

func sorted(l ...api.Digest) digests {
	slices.SortFunc(l, digest.Compare)
	return l
}

func TestExample(t *testing.T) {
	p, a := commit(t, nil, 0)
	p, b := commit(t, p, 1, a)
	p, c := commit(t, p, 2, a)
	p, d := commit(t, p, 3, b, c)
	want := slices.Concat(digests{d}, sorted(b, c), digests{a})
	if l, e := history.Ancestors(p, digests{d, d, a}); e != api.OK || !slices.Equal(l, want) {
		t.Error("P13.1", l, e)
	}
	if l, e := history.Bases(p, b, c); e != api.OK || !slices.Equal(l, digests{a}) {
		t.Error("P13.1", l, e)
	}
	if n, e := history.Depth(p, d); n != 2 || e != api.OK {
		t.Error("P13.1", n, e)
	}
	if l, e := history.First(p, d); e != api.OK || !slices.Equal(l, digests{d, b, a}) {
		t.Error("P13.1", l, e)
	}
	if l, e := history.Between(p, digests{b}, digests{d}); e != api.OK || !slices.Equal(l, digests{d, c}) {
		t.Error("P13.1", l, e)
	}
	if o, e := history.Commit(p, c); e != api.OK || o.Time != 2 {
		t.Error("P13.1", e)
	}
}

func TestErrors(t *testing.T) {
	p, blob, _ := pool.Put(nil, api.Object{Kind: api.BlobObject})
	missing := api.Digest{9}
	p, a := commit(t, p, 0)
	p, b := commit(t, p, 1, a, blob, missing)
	p, c := commit(t, p, 2, missing, blob)
	for k, x := range []struct {
		d api.Digest
		e api.Errno
	}{{missing, api.ErrNotFound}, {api.Digest{}, api.ErrNotFound}, {blob, api.ErrKind}, {b, api.ErrKind}, {c, api.ErrNotFound}} {
		if l, e := history.Ancestors(p, digests{a, x.d, c}); e != x.e || len(l) != 0 {
			t.Error("P13.1: Ancestors", k, e)
		}
		if ok, e := history.Reaches(p, x.d, a); e != x.e || ok {
			t.Error("P13.1: Reaches", k, e)
		}
		if l, e := history.Bases(p, a, x.d); e != x.e || len(l) != 0 {
			t.Error("P13.1: Bases", k, e)
		}
		if l, e := history.Bases(p, x.d, c); e != x.e || len(l) != 0 {
			t.Error("P13.1: Bases", k, e)
		}
		if n, e := history.Depth(p, x.d); e != x.e || n != 0 {
			t.Error("P13.1: Depth", k, e)
		}
		if l, e := history.Between(p, digests{c}, digests{x.d}); e != x.e || len(l) != 0 {
			t.Error("P13.1: Between", k, e)
		}
		if l, e := history.Between(p, digests{x.d}, digests{a}); e != x.e || len(l) != 0 {
			t.Error("P13.1: Between", k, e)
		}
	}
	if l, e := history.First(p, b); e != api.OK || len(l) != 2 {
		t.Error("P13.1: First", e)
	}
	if l, e := history.First(p, c); e != api.ErrNotFound || len(l) != 0 {
		t.Error("P13.1: First", e)
	}
	for d, want := range map[api.Digest]api.Errno{missing: api.ErrNotFound, blob: api.ErrKind, c: api.OK} {
		if o, e := history.Commit(p, d); e != want || e != api.OK && fmt.Sprint(o) != fmt.Sprint(api.Object{}) {
			t.Error("P13.1: Commit", e)
		}
	}
	if ok, e := history.Reaches(p, a, missing); ok || e != api.OK {
		t.Error("P13.1: Reaches", e)
	}
}

func TestRandom(t *testing.T) {
	r := rand.New(rand.NewSource(1))
	for range 40 {
		var p api.Pool
		var l digests
		for i := range 14 {
			var parents digests
			for range r.Intn(3) {
				if i > 0 {
					if d := l[r.Intn(i)]; !slices.Contains(parents, d) {
						parents = append(parents, d)
					}
				}
			}
			var d api.Digest
			p, d = commit(t, p, i, parents...)
			l = append(l, d)
		}
		reaches := func(a, b api.Digest) bool {
			ok, e := history.Reaches(p, a, b)
			if e != api.OK {
				t.Fatal(e)
			}
			return ok
		}
		check(t, r, p, l, reaches)
	}
}

func check(t *testing.T, r *rand.Rand, p api.Pool, l digests, reaches func(a, b api.Digest) bool) {
	all, _ := history.Ancestors(p, l)
	for i, d := range all {
		o, _ := history.Commit(p, d)
		depth, _ := history.Depth(p, d)
		want := 0
		for _, x := range o.Parents {
			n, _ := history.Depth(p, x)
			want = max(want, n+1)
			if slices.Index(all, x) <= i {
				t.Error("P13.2")
			}
		}
		if depth != want {
			t.Error("P13.1: Depth", depth)
		}
		if i > 0 {
			if n, _ := history.Depth(p, all[i-1]); n < depth || n == depth && digest.Compare(all[i-1], d) >= 0 {
				t.Error("P13.1: order")
			}
		}
	}
	a, b := l[r.Intn(len(l))], l[r.Intn(len(l))]
	mine, _ := history.Ancestors(p, digests{a})
	for _, x := range l {
		if slices.Contains(mine, x) != reaches(a, x) || reaches(a, b) && reaches(b, x) && !reaches(a, x) {
			t.Error("P13.3")
		}
	}
	if a != b && reaches(a, b) && reaches(b, a) || !reaches(a, a) {
		t.Error("P13.3")
	}
	bases, _ := history.Bases(p, a, b)
	other, _ := history.Bases(p, b, a)
	var want digests
	for _, x := range l {
		best := reaches(a, x) && reaches(b, x)
		for _, y := range l {
			best = best && !(y != x && reaches(a, y) && reaches(b, y) && reaches(y, x))
		}
		if best {
			want = append(want, x)
		}
	}
	if !slices.Equal(bases, other) || !slices.Equal(bases, sorted(want...)) || reaches(a, b) && !slices.Equal(bases, digests{b}) {
		t.Error("P13.4")
	}
	old, new := l[:r.Intn(5)], l[5:r.Intn(5)+5]
	between, _ := history.Between(p, old, new)
	before, _ := history.Ancestors(p, old)
	both, _ := history.Ancestors(p, slices.Concat(old, new))
	if !slices.Equal(sorted(slices.Concat(between, before)...), sorted(both...)) {
		t.Error("P13.5")
	}
}

func TestCycle(t *testing.T) {
	// Forged items make a cycle; the functions must end.
	p, a := commit(t, nil, 0, api.Digest{1})
	p[0].Digest = api.Digest{1}
	history.Ancestors(p, digests{{1}, a})
	history.Depth(p, api.Digest{1})
	history.First(p, api.Digest{1})
	history.Bases(p, api.Digest{1}, api.Digest{1})
}
