package repo_test

import (
	"testing"

	"cordwood/api"
	"cordwood/repo"
)

func TestMismatch(t *testing.T) {
	r := fresh(t, 99)
	r, _ = commit(t, r, "trunk", "1")
	for k, f := range []func(r *api.Repo){func(r *api.Repo) { r.Pool = r.Pool[1:] }, func(r *api.Repo) { r.Refs.Refs = nil }, func(r *api.Repo) { r.Refs.Log = nil }} {
		x := r
		f(&x)
		if e := repo.Check(x); e != api.ErrMismatch {
			t.Error("P12.1: Check", k, e)
		}
	}
}

func TestUpdates(t *testing.T) {
	r := fresh(t, 99)
	r, one := commit(t, r, "trunk", "1")
	l := []api.RefUpdate{{Name: "trunk", Old: one}, {Name: "other", New: api.Digest{7}}}
	if x, e := repo.Write(r, nil, l); e != api.ErrNotFound || !same(x, api.Repo{}) {
		t.Error("P12.1: Write", e)
	}
	lost := r
	lost.Disk.Left = 0
	x, e := repo.Write(lost, nil, l[:1])
	if e != api.ErrLost || !same(x.Pool, r.Pool) || !same(x.Refs, r.Refs) || x.Disk.Left != 0 {
		t.Error("P12.1: Write", e)
	}
	x, d, e := repo.Commit(lost, "trunk", files("a", "2"), "ann", "", 0)
	if e != api.ErrLost || d != (api.Digest{}) || !same(x.Refs, r.Refs) {
		t.Error("P12.1: Commit", e)
	}
	bare, _ := repo.Write(r, nil, l[:1])
	bare.Disk.Left = 1
	if x, n, e := repo.Collect(bare); e != api.ErrLost || n != 0 || len(x.Pool) != 3 || len(x.Disk.Pending) != 1 {
		t.Error("P12.1: Collect", n, e)
	}
}
