package partial_test

import (
	"fmt"
	"math/rand"
	"slices"
	"strings"
	"testing"

	"cordwood/api"
	"cordwood/digest"
	"cordwood/history"
	"cordwood/partial"
	"cordwood/pool"
	"cordwood/tree"
)

type digests = []api.Digest

func same(a, b any) bool { return fmt.Sprintf("%q", a) == fmt.Sprintf("%q", b) }

func commit(t *testing.T, p api.Pool, time int, l []api.File, parents ...api.Digest) (api.Pool, api.Digest) {
	t.Helper()
	p, root, e := tree.Store(p, l)
	if e != api.OK {
		t.Fatal(e)
	}
	p, d, e := pool.Put(p, api.Object{Kind: api.CommitObject, Tree: root, Parents: parents, Author: "ann", Time: time})
	if e != api.OK {
		t.Fatal(e)
	}
	return p, d
}

func files(l ...string) []api.File {
	var f []api.File
	for i := 0; i < len(l); i += 2 {
		f = append(f, api.File{Path: l[i], Data: l[i+1]})
	}
	return f
}

func TestExample(t *testing.T) {
	p, a := commit(t, nil, 0, files("src/x", "0", "y", "y0"))
	p, b := commit(t, p, 1, files("src/x", "1", "y", "y1"), a)
	p, c := commit(t, p, 2, files("src/x", "2", "y", "y2"), b)
	q, edge, e := partial.Clone(p, digests{c}, api.Scope{Depth: 2})
	if e != api.OK || !slices.Equal(edge, digests{b}) || len(q) != 10 || pool.Has(q, a) || !pool.Has(q, b) {
		t.Error("P14.1", len(q), edge, e)
	}
	q, edge, e = partial.Clone(p, digests{c}, api.Scope{Depth: 1, Prefix: "src/"})
	if e != api.OK || !slices.Equal(edge, digests{c}) || len(q) != 4 {
		t.Error("P14.1", len(q), edge, e)
	}
	o, _ := history.Commit(q, c)
	if s, e := tree.Get(q, o.Tree, "src/x"); s != "2" || e != api.OK {
		t.Error("P14.3", s, e)
	}
	if s, e := tree.Get(q, o.Tree, "y"); s != "" || e != api.ErrNotFound {
		t.Error("P14.1", s, e)
	}
}

// plain finds the needed objects as the chapter says, path by path.
func plain(p api.Pool, heads digests, s api.Scope) digests {
	set := map[api.Digest]bool{}
	var dir func(d api.Digest, path string)
	dir = func(d api.Digest, path string) {
		set[d] = true
		o, _ := pool.Get(p, d)
		for _, x := range o.Entries {
			next := path + x.Name
			if x.Dir {
				next += "/"
			}
			if x.Dir && (strings.HasPrefix(next, s.Prefix) || strings.HasPrefix(s.Prefix, next)) {
				dir(x.Digest, next)
			} else if !x.Dir && strings.HasPrefix(next, s.Prefix) {
				set[x.Digest] = true
			}
		}
	}
	level, met := heads, map[api.Digest]bool{}
	for k := 0; len(level) > 0 && (s.Depth == 0 || k < s.Depth); k++ {
		var next digests
		for _, d := range level {
			if met[d] {
				continue
			}
			met[d], set[d] = true, true
			o, _ := pool.Get(p, d)
			dir(o.Tree, "")
			next = append(next, o.Parents...)
		}
		level = next
	}
	var l digests
	for d := range set {
		l = append(l, d)
	}
	slices.SortFunc(l, digest.Compare)
	return l
}

func TestRandom(t *testing.T) {
	r := rand.New(rand.NewSource(1))
	prefixes := []string{"", "a", "a/", "a/b", "a/b/", "a/b/x", "c", "ab", "/"}
	for range 60 {
		var p api.Pool
		var l digests
		for i := range 8 {
			var parents digests
			for range r.Intn(3) {
				if i > 0 {
					if d := l[r.Intn(i)]; !slices.Contains(parents, d) {
						parents = append(parents, d)
					}
				}
			}
			var d api.Digest
			p, d = commit(t, p, i, files("a/b/x", fmt.Sprint(r.Intn(3)), "a/c", fmt.Sprint(r.Intn(3)), "ab", fmt.Sprint(r.Intn(3)), "c", fmt.Sprint(i)), parents...)
			l = append(l, d)
		}
		heads := digests{l[7], l[r.Intn(8)]}
		s := api.Scope{Depth: r.Intn(4), Prefix: prefixes[r.Intn(len(prefixes))]}
		needed, edge, e := partial.Needed(p, heads, s)
		if e != api.OK || !slices.Equal(needed, plain(p, heads, s)) {
			t.Fatal("P14.1", s, e)
		}
		q, _, _ := partial.Clone(p, heads, s)
		if m, e := partial.Missing(q, heads, s, edge); len(m) != 0 || e != api.OK || len(q) != len(needed) {
			t.Error("P14.2", s, e)
		}
		out := needed[r.Intn(len(needed))]
		less := slices.DeleteFunc(slices.Clone(q), func(x api.Item) bool { return x.Digest == out })
		if m, e := partial.Missing(less, heads, s, edge); !slices.Equal(m, digests{out}) || e != api.OK {
			t.Error("P14.2", s, len(m), e)
		}
		if s.Depth == 0 && len(edge) != 0 {
			t.Error("P14.4")
		}
		for _, d := range needed {
			o, _ := pool.Get(q, d)
			for _, x := range o.Parents {
				if !slices.Contains(edge, d) && !pool.Has(q, x) {
					t.Error("P14.4")
				}
			}
		}
		growth(t, r, p, q, heads, s)
	}
}

func growth(t *testing.T, r *rand.Rand, p, q api.Pool, heads digests, s api.Scope) {
	t.Helper()
	greater := api.Scope{Prefix: s.Prefix[:r.Intn(len(s.Prefix)+1)]}
	if s.Depth > 0 && r.Intn(2) == 0 {
		greater.Depth = s.Depth + r.Intn(3)
	}
	want, edge, _ := partial.Clone(p, heads, greater)
	deep, deepEdge, e := partial.Deepen(q, p, heads, greater)
	if e != api.OK || !same(deep, want) || !slices.Equal(edge, deepEdge) {
		t.Error("P14.5", s, greater, e)
	}
	all, _, _ := partial.Needed(p, heads, api.Scope{})
	if reached, _ := pool.Reach(p, heads); !slices.Equal(all, reached) {
		t.Error("P14.5")
	}
}

func TestErrors(t *testing.T) {
	p, a := commit(t, nil, 0, files("x", "1"))
	p, blob, _ := pool.Put(p, api.Object{Kind: api.BlobObject})
	p, odd, _ := pool.Put(p, api.Object{Kind: api.TreeObject, Entries: []api.Entry{{Name: "a", Digest: a}, {Name: "b", Dir: true, Digest: blob}, {Name: "c", Digest: api.Digest{8}}}})
	p, c, _ := pool.Put(p, api.Object{Kind: api.CommitObject, Tree: odd, Author: "ann"})
	for k, x := range []struct {
		heads digests
		s     api.Scope
		e, m  api.Errno
	}{
		{digests{{}}, api.Scope{Depth: -1, Prefix: strings.Repeat("x", 101)}, api.ErrRange, api.ErrRange}, {digests{{}}, api.Scope{Prefix: strings.Repeat("x", 101)}, api.ErrLimit, api.ErrLimit},
		{digests{{}, blob}, api.Scope{}, api.ErrNotFound, api.ErrKind}, {digests{blob}, api.Scope{}, api.ErrKind, api.ErrKind}, {digests{c}, api.Scope{}, api.ErrNotFound, api.ErrKind},
		{digests{c}, api.Scope{Prefix: "b"}, api.ErrKind, api.ErrKind}, {digests{c}, api.Scope{Prefix: "d"}, api.OK, api.OK}, {digests{c}, api.Scope{Prefix: "a"}, api.ErrKind, api.ErrKind},
		{digests{c}, api.Scope{Prefix: "c"}, api.ErrNotFound, api.OK}, {nil, api.Scope{}, api.OK, api.OK},
	} {
		if l, m, e := partial.Needed(p, x.heads, x.s); e != x.e || e != api.OK && (len(l) != 0 || len(m) != 0) {
			t.Error("P14.1: Needed", k, e)
		}
		if q, m, e := partial.Clone(p, x.heads, x.s); e != x.e || e != api.OK && (len(q) != 0 || len(m) != 0) {
			t.Error("P14.1: Clone", k, e)
		}
		if l, e := partial.Missing(p, x.heads, x.s, nil); e != x.m || e != api.OK && len(l) != 0 {
			t.Error("P14.1: Missing", k, e)
		}
		if q, m, e := partial.Deepen(nil, p, x.heads, x.s); e != x.e || e != api.OK && (len(q) != 0 || len(m) != 0) {
			t.Error("P14.1: Deepen", k, e)
		}
	}
	if l, e := partial.Missing(p, digests{{}, {5}, a}, api.Scope{}, nil); e != api.OK || !slices.Equal(l, digests{{}, {5}}) {
		t.Error("P14.1: Missing", l, e)
	}
	if q, _, e := partial.Deepen(api.Pool{{Digest: a, Data: "\x01\x00"}}, p, digests{a}, api.Scope{}); e != api.ErrCollision || len(q) != 0 {
		t.Error("P14.1: Deepen", e)
	}
}
