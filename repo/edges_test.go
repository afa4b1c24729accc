package repo_test

import (
	"testing"

	"cordwood/api"
	"cordwood/repo"
)

func TestMismatch(t *testing.T) {
	r := fresh(t, 99)
	r, _ = commit(t, r, "trunk", "1")
	for k, f := range []func(r *api.Repo){func(r *api.Repo) { r.Pool = r.Pool[1:] }, func(r *api.Repo) { r.Refs.Refs = nil }, func(r *api.Repo) { r.Refs.Log = nil }} {
		x := r
		f(&x)
		if e := repo.Check(x); e != api.ErrMismatch {
			t.Error("P12.1: Check", k, e)
		}
	}
}
