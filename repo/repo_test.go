package repo_test

import (
	"fmt"
	"math/rand"
	"strings"
	"testing"

	"cordwood/api"
	"cordwood/digest"
	"cordwood/disk"
	"cordwood/journal"
	"cordwood/pool"
	"cordwood/refs"
	"cordwood/repo"
	"cordwood/tree"
)

func same(a, b any) bool { return fmt.Sprintf("%q", a) == fmt.Sprintf("%q", b) }

func fresh(t *testing.T, sectors int) api.Repo {
	t.Helper()
	d, _ := disk.New(sectors, 64)
	r, e := repo.Init(d)
	if e != api.OK {
		t.Fatal("P12.1: Init", e)
	}
	return r
}

func files(l ...string) []api.File {
	var f []api.File
	for i := 0; i < len(l); i += 2 {
		f = append(f, api.File{Path: l[i], Data: l[i+1]})
	}
	return f
}

func commit(t *testing.T, r api.Repo, ref, data string) (api.Repo, api.Digest) {
	t.Helper()
	r, d, e := repo.Commit(r, ref, files("a", data), "ann", "msg", 3)
	if e != api.OK || repo.Check(r) != api.OK {
		t.Fatal("P12.4: Commit", e)
	}
	return r, d
}

func TestExample(t *testing.T) {
	r := fresh(t, 99)
	r, one := commit(t, r, "trunk", "1")
	records, _ := journal.Records(r.Disk)
	if len(r.Pool) != 3 || len(r.Refs.Log) != 1 || len(records) != 4 {
		t.Error("P12.1", len(r.Pool), len(records))
	}
	r, two := commit(t, r, "trunk", "2")
	if o, _ := pool.Get(r.Pool, two); len(r.Pool) != 6 || len(o.Parents) != 1 || o.Parents[0] != one || o.Author != "ann" || o.Time != 3 || o.Message != "msg" {
		t.Error("P12.1", o)
	}
	if x, n, e := repo.Collect(r); n != 0 || e != api.OK || !same(x, r) {
		t.Error("P12.6", n, e)
	}
	r, e := repo.Write(r, nil, []api.RefUpdate{{Name: "trunk", Old: two}})
	if e != api.OK || len(r.Refs.Refs) != 0 {
		t.Error("P12.1", e)
	}
	r, n, e := repo.Collect(r)
	if n != 6 || e != api.OK || len(r.Pool) != 0 || len(r.Refs.Log) != 3 || repo.Check(r) != api.OK {
		t.Error("P12.1: Collect", n, e)
	}
}

func TestCommits(t *testing.T) {
	r := fresh(t, 199)
	r, _ = commit(t, r, "a/b", "1")
	r, _ = commit(t, r, "trunk", "2")
	if x, d, e := repo.Commit(r, "trunk", files("a", "2"), "", "", -1); e != api.OK || d != (api.Digest{}) || !same(x, r) {
		t.Error("P12.5: again", e)
	}
	for ref, want := range map[string]string{"a/b": "1", "trunk": "2"} {
		if l, e := repo.Files(r, ref); e != api.OK || !same(l, files("a", want)) {
			t.Error("P12.5", e)
		}
	}
	x, e := repo.Open(r.Disk)
	if e != api.OK || !same(x, r) {
		t.Error("P12.2", e)
	}
	zero := api.Digest{}
	for k, x := range []struct {
		ref, author, message string
		time                 int
		l                    []api.File
		e                    api.Errno
	}{
		{"", "ann", "", 0, files("", ""), api.ErrName}, {"trunk", "", "", 0, files("b", "", "a", ""), api.ErrOrder}, {"trunk", "", "", -1, nil, api.ErrName},
		{"trunk", "ann", "", -1, nil, api.ErrRange}, {"trunk", "ann", strings.Repeat("x", 201), 0, nil, api.ErrLimit}, {"new", "ann", "", 0, files("a", strings.Repeat("x", 60000)), api.ErrFull},
	} {
		if y, d, e := repo.Commit(r, x.ref, x.l, x.author, x.message, x.time); e != x.e || d != zero || !same(y, api.Repo{}) {
			t.Error("P12.1: Commit", k, e)
		}
	}
	for ref, want := range map[string]api.Errno{"": api.ErrName, "b": api.ErrNotFound} {
		if l, e := repo.Files(r, ref); e != want || len(l) != 0 {
			t.Error("P12.1: Files", e)
		}
	}
}

func TestWrite(t *testing.T) {
	r := fresh(t, 99)
	r, one := commit(t, r, "trunk", "1")
	p, blob, _ := pool.Put(nil, api.Object{Kind: api.BlobObject, Data: "x"})
	p, bare, _ := pool.Put(p, api.Object{Kind: api.CommitObject, Tree: api.Digest{9}, Author: "ann"})
	up := func(name string, old, new api.Digest) []api.RefUpdate {
		return []api.RefUpdate{{Name: name, Old: old, New: new}}
	}
	zero := api.Digest{}
	for k, x := range []struct {
		p api.Pool
		l []api.RefUpdate
		e api.Errno
	}{
		{api.Pool{{Data: "x"}}, up("", zero, zero), api.ErrDecode}, {nil, up("", zero, zero), api.ErrName}, {nil, up("trunk", zero, one), api.ErrConflict},
		{p, up("x", zero, api.Digest{5}), api.ErrNotFound}, {p, up("x", zero, blob), api.ErrKind}, {p, up("x", zero, bare), api.ErrNotFound},
		{nil, append(up("trunk", one, zero), up("trunk", one, zero)...), api.ErrConflict}, {p, up("x", zero, one), api.OK}, {nil, nil, api.OK},
	} {
		y, e := repo.Write(r, x.p, x.l)
		if e != x.e || e != api.OK && !same(y, api.Repo{}) || e == api.OK && repo.Check(y) != api.OK {
			t.Error("P12.1: Write", k, e)
		}
	}
	if y, e := repo.Write(r, r.Pool, nil); e != api.OK || !same(y, r) {
		t.Error("P12.1: nothing is written", e)
	}
	y, _ := repo.Write(r, nil, up("trunk", one, zero))
	if _, e := repo.Write(y, nil, up("trunk", one, zero)); e != api.ErrConflict {
		t.Error("P12.7", e)
	}
}

func TestCrashes(t *testing.T) {
	r := rand.New(rand.NewSource(1))
	for round := range 15 {
		x := fresh(t, 120)
		for step := range 6 {
			change := func(x api.Repo) (api.Repo, api.Errno) {
				y, _, e := repo.Commit(x, fmt.Sprint("ref", step%2), files("a", fmt.Sprint(round, step)), "ann", "", 0)
				return y, e
			}
			if step == 4 {
				x, _ = repo.Write(x, nil, []api.RefUpdate{{Name: "ref0", Old: x.Refs.Refs[0].Digest}})
				change = func(x api.Repo) (api.Repo, api.Errno) {
					y, _, e := repo.Collect(x)
					return y, e
				}
			}
			after, e := change(x)
			if e != api.OK {
				t.Fatal("P12.1", e)
			}
			for left := 0; ; left++ {
				cut := x
				cut.Disk.Left = left
				y, e := change(cut)
				if e == api.ErrLost && (!same(y.Pool, x.Pool) || !same(y.Refs, x.Refs)) {
					t.Error("P12.1: Lost power")
				}
				picks := make([]int, len(y.Disk.Pending))
				for i := range picks {
					picks[i] = r.Intn(65)
				}
				z, f := repo.Open(disk.Cut(y.Disk, picks))
				isAfter := same(z.Pool, after.Pool) && same(z.Refs, after.Refs)
				isBefore := same(z.Pool, x.Pool) && same(z.Refs, x.Refs)
				if f != api.OK || !isAfter && (e == api.OK || !isBefore) {
					t.Fatal("P12.2, P12.3", left, e, f)
				}
				if e == api.OK {
					break
				}
			}
			x = after
		}
		if _, n, e := repo.Collect(x); n != 0 && e != api.OK {
			t.Error("P12.6", n, e)
		}
	}
}

func TestOpen(t *testing.T) {
	head := func(n byte, l ...api.RefUpdate) string {
		s, _ := refs.Encode(l)
		return string([]byte{n}) + s
	}
	p, root, _ := tree.Store(nil, nil)
	_, d, _ := pool.Put(p, api.Object{Kind: api.CommitObject, Tree: root, Author: "ann"})
	c := "\x03" + bytesOf(root) + "\x00\x03ann\x00\x00"
	up := api.RefUpdate{Name: "a", New: d}
	for k, x := range []struct {
		records []string
		ok      bool
	}{
		{nil, true}, {[]string{head(2, up), "\x02\x00", c}, true}, {[]string{head(1), c, head(1, up), "\x02\x00"}, true}, {[]string{head(0), head(2), c, c}, true},
		{[]string{head(1, up), c}, false}, {[]string{head(3, up), "\x02\x00", c}, false}, {[]string{head(1, up), "\x02\x00"}, false}, {[]string{head(1), "x"}, false},
		{[]string{head(2, up, up), "\x02\x00", c}, false}, {[]string{"\x00"}, false}, {[]string{head(0) + "x"}, false}, {[]string{head(1, api.RefUpdate{Name: "a", New: root}), "\x02\x00"}, false},
	} {
		r := fresh(t, 99)
		j, _ := journal.Append(r.Disk, x.records)
		r, e := repo.Open(j)
		if (e == api.OK) != x.ok || e != api.OK && (e != api.ErrDecode || !same(r, api.Repo{})) {
			t.Error("P12.1: Open", k, e)
		}
		if f := repo.Check(api.Repo{Disk: j, Pool: r.Pool, Refs: r.Refs}); f != e {
			t.Error("P12.1: Check", k, f)
		}
	}
	empty, _ := disk.New(3, 9)
	if r, e := repo.Open(empty); e != api.ErrDecode || !same(r, api.Repo{}) {
		t.Error("P12.1: Open", e)
	}
	r := fresh(t, 9)
	r.Pool = p
	if e := repo.Check(r); e != api.ErrMismatch {
		t.Error("P12.1: Check", e)
	}
	empty.Left = 1
	if r, e := repo.Init(empty); e != api.ErrLost || len(r.Disk.Pending) != 1 {
		t.Error("P12.1: Init", e)
	}
	if r, e := repo.Init(api.Disk{}); e != api.ErrRange || !same(r, api.Repo{}) {
		t.Error("P12.1: Init", e)
	}
}

func bytesOf(d api.Digest) string {
	var b []byte
	for _, n := range d {
		for k := 7; k >= 0; k-- {
			b = append(b, byte(n>>(8*k)))
		}
	}
	if digest.Of("") == d {
		return ""
	}
	return string(b)
}
