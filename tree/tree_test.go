package tree_test

import (
	"fmt"
	"math/rand"
	"slices"
	"strings"
	"testing"

	"cordwood/api"
	"cordwood/object"
	"cordwood/pool"
	"cordwood/tree"
)

func same(a, b any) bool { return fmt.Sprintf("%q", a) == fmt.Sprintf("%q", b) }

func files(l ...string) []api.File {
	var f []api.File
	for i := 0; i < len(l); i += 2 {
		f = append(f, api.File{Path: l[i], Data: l[i+1]})
	}
	return f
}

func random(r *rand.Rand) []api.File {
	m := map[string]string{}
	for range r.Intn(8) {
		m[[]string{"a/x", "a/y", "a/z/u", "a-b", "a.c", "b", "b0", "c/d/e", "c/d/f"}[r.Intn(9)]] = fmt.Sprint(r.Intn(3))
	}
	var l []api.File
	for k, v := range m {
		l = append(l, api.File{Path: k, Data: v})
	}
	slices.SortFunc(l, func(a, b api.File) int { return strings.Compare(a.Path, b.Path) })
	return l
}

func put(t *testing.T, p api.Pool, o api.Object) (api.Pool, api.Digest) {
	t.Helper()
	p, d, e := pool.Put(p, o)
	if e != api.OK {
		t.Fatal(e)
	}
	return p, d
}

func TestLists(t *testing.T) {
	r := rand.New(rand.NewSource(1))
	for range 200 {
		a, b := random(r), random(r)
		p, x, e := tree.Store(nil, a)
		p, y, f := tree.Store(p, b)
		if e != api.OK || f != api.OK || same(a, b) != (x == y) {
			t.Fatal("P9.2", e, f)
		}
		if l, e := tree.Load(p, x); e != api.OK || !same(l, a) {
			t.Error("P9.2", e)
		}
		for _, f := range a {
			if s, e := tree.Get(p, x, f.Path); s != f.Data || e != api.OK {
				t.Error("P9.1: Get", e)
			}
		}
		c, e := tree.Diff(p, x, y)
		if l, f := tree.Patch(a, c); e != api.OK || f != api.OK || !same(l, b) {
			t.Error("P9.4", e, f)
		}
		for i := range c {
			c[i].HasOld, c[i].HasNew, c[i].Old, c[i].New = c[i].HasNew, c[i].HasOld, c[i].New, c[i].Old
		}
		if l, e := tree.Patch(b, c); e != api.OK || !same(l, a) {
			t.Error("P9.4", e)
		}
		q, z, e := tree.Set(p, x, "m/n/o", "new")
		if l, _ := tree.Load(q, z); e != api.OK || len(l) != len(a)+1 || len(q) > len(p)+4 {
			t.Error("P9.3, P9.5", e)
		}
		if _, w, e := tree.Remove(q, z, "m/n/o"); w != x || e != api.OK {
			t.Error("P9.3", e)
		}
		if len(a) > 0 {
			q, z, e := tree.Set(p, x, a[0].Path, "other")
			l, _ := tree.Load(q, z)
			if e != api.OK || l[0].Data != "other" || !same(l[1:], a[1:]) {
				t.Error("P9.3", e)
			}
		}
	}
}

func TestExample(t *testing.T) {
	p, d, e := tree.Store(nil, files("a/x", "1", "b", "2"))
	o, _ := pool.Get(p, d)
	if e != api.OK || len(p) != 4 || len(o.Entries) != 2 || !o.Entries[0].Dir || o.Entries[0].Name != "a" || o.Entries[1].Dir || o.Entries[1].Name != "b" {
		t.Error("P9.1", o, e)
	}
	sub, _ := pool.Get(p, o.Entries[0].Digest)
	if len(sub.Entries) != 1 || sub.Entries[0].Name != "x" || sub.Entries[0].Dir {
		t.Error("P9.1", sub)
	}
	if q, z, e := tree.Set(p, d, "a", "3"); e != api.ErrExists || len(q) != 0 || z != (api.Digest{}) {
		t.Error("P9.1", e)
	}
	for path, want := range map[string]api.Errno{"a": api.ErrKind, "b/c": api.ErrKind, "c": api.ErrNotFound, "a/y": api.ErrNotFound, "a/x/z": api.ErrKind, "/": api.ErrName, "c/d": api.ErrNotFound} {
		if s, e := tree.Get(p, d, path); s != "" || e != want {
			t.Error("P9.1: Get", path, e)
		}
	}
	if _, _, e := tree.Set(p, d, "a//b", ""); e != api.ErrName {
		t.Error("P9.1: Set", e)
	}
	if _, _, e := tree.Remove(p, d, "c"); e != api.ErrNotFound {
		t.Error("P9.1: Remove", e)
	}
	if _, _, e := tree.Remove(p, d, ""); e != api.ErrName {
		t.Error("P9.1: Remove", e)
	}
	if _, _, e := tree.Remove(p, api.Digest{1}, ""); e != api.ErrNotFound {
		t.Error("P9.1: Remove", e)
	}
}

func TestCheck(t *testing.T) {
	many := make([]api.File, 201)
	big := strings.Repeat("a", 65533)
	for k, x := range []struct {
		l []api.File
		e api.Errno
	}{
		{nil, api.OK}, {many, api.ErrLimit}, {files("", big), api.ErrName}, {files("a/..", ""), api.ErrName}, {files("b", "", "a", big), api.ErrLimit},
		{files("b", "", "a", ""), api.ErrOrder}, {files("a", "", "a", ""), api.ErrOrder}, {files("a", "", "a-", "", "a/b", ""), api.ErrExists}, {files("a", "", "ab/c", ""), api.OK},
		{files("a", "", "a/b", "", "a/a", ""), api.ErrOrder}, {files("a", big[:65532]), api.OK},
	} {
		if e := tree.Check(x.l); e != x.e {
			t.Error("P9.1: Check", k, e)
		}
		if p, d, e := tree.Store(nil, x.l); e != x.e || e != api.OK && (len(p) != 0 || d != api.Digest{}) {
			t.Error("P9.1: Store", k, e)
		}
		if l, e := tree.Patch(x.l, nil); e != x.e || e != api.OK && len(l) != 0 {
			t.Error("P9.1: Patch", k, e)
		}
	}
}

func TestLoadErrors(t *testing.T) {
	p, b := put(t, nil, api.Object{Kind: api.BlobObject, Data: "x"})
	p, empty := put(t, p, api.Object{Kind: api.TreeObject})
	dir := func(name string, d api.Digest, isDir bool) api.Digest {
		var r api.Digest
		p, r = put(t, p, api.Object{Kind: api.TreeObject, Entries: []api.Entry{{Name: name, Dir: isDir, Digest: d}}})
		return r
	}
	long := dir("x", b, false)
	for range 4 {
		long = dir(strings.Repeat("d", 24), long, true)
	}
	exact := dir(strings.Repeat("d", 24), b, false)
	for range 3 {
		exact = dir(strings.Repeat("d", 24), exact, true)
	}
	tooLong := dir("abcd", exact, true)
	for k, x := range []struct {
		d api.Digest
		e api.Errno
	}{
		{api.Digest{5}, api.ErrNotFound}, {b, api.ErrKind}, {empty, api.OK}, {dir("a", empty, true), api.ErrArgument}, {dir("a", b, true), api.ErrKind},
		{dir("a", empty, false), api.ErrKind}, {dir("a", api.Digest{5}, false), api.ErrNotFound}, {dir("a", api.Digest{5}, true), api.ErrNotFound},
		{long, api.ErrLimit}, {exact, api.OK}, {tooLong, api.ErrLimit},
	} {
		if l, e := tree.Load(p, x.d); e != x.e || e != api.OK && len(l) != 0 {
			t.Error("P9.1: Load", k, e, x.e)
		}
		if c, e := tree.Diff(p, empty, x.d); e != x.e || e != api.OK && len(c) != 0 {
			t.Error("P9.1: Diff", k, e)
		}
		if c, e := tree.Diff(p, x.d, api.Digest{6}); e != x.e && e != api.ErrNotFound || len(c) != 0 {
			t.Error("P9.1: Diff", k, e)
		}
	}
	var l []api.File
	for i := range 200 {
		l = append(l, api.File{Path: fmt.Sprintf("n%03d", i)})
	}
	q, d, _ := tree.Store(p, l)
	o, _ := pool.Get(q, d)
	o.Entries = append(slices.Clone(o.Entries[:199]), api.Entry{Name: "z", Dir: true, Digest: o.Entries[0].Digest})
	_, two, _ := tree.Store(q, files("a", "", "b", ""))
	q, _, _ = tree.Store(q, files("a", "", "b", ""))
	o.Entries[199].Digest = two
	q, d = put(t, q, o)
	if l, e := tree.Load(q, d); e != api.ErrLimit || len(l) != 0 || object.Check(o) != api.OK {
		t.Error("P9.1: Load of 201 files", e)
	}
	if _, _, e := tree.Set(q, two, "x/"+strings.Repeat("a", 24), strings.Repeat("b", 65533)); e != api.ErrLimit {
		t.Error("P9.1: Set", e)
	}
}

func TestPatch(t *testing.T) {
	l := files("a", "1", "b", "2")
	for k, x := range []struct {
		c []api.FileChange
		e api.Errno
	}{
		{[]api.FileChange{{Path: ""}}, api.ErrName}, {[]api.FileChange{{Path: "a"}}, api.ErrArgument}, {[]api.FileChange{{Path: "c", HasNew: true, Old: "x"}}, api.ErrArgument},
		{[]api.FileChange{{Path: "a", HasOld: true, Old: "1", New: "x"}}, api.ErrArgument}, {[]api.FileChange{{Path: "b", HasOld: true, Old: "2"}, {Path: "a", HasOld: true, Old: "2"}}, api.ErrOrder},
		{[]api.FileChange{{Path: "a", HasOld: true, Old: "2"}}, api.ErrConflict}, {[]api.FileChange{{Path: "a", HasNew: true}}, api.ErrConflict}, {[]api.FileChange{{Path: "c", HasOld: true}}, api.ErrConflict},
		{[]api.FileChange{{Path: "a/c", HasNew: true}}, api.ErrExists}, {[]api.FileChange{{Path: "a", HasOld: true, Old: "1"}, {Path: "a/c", HasNew: true}}, api.OK},
		{[]api.FileChange{{Path: "a", HasOld: true, Old: "1", HasNew: true, New: "1"}}, api.OK},
	} {
		if r, e := tree.Patch(l, x.c); e != x.e || e != api.OK && len(r) != 0 {
			t.Error("P9.1: Patch", k, e)
		}
	}
}
