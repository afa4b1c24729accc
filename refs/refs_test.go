package refs_test

import (
	"fmt"
	"math/rand"
	"slices"
	"strings"
	"testing"

	"cordwood/api"
	"cordwood/refs"
)

func same(a, b any) bool { return fmt.Sprintf("%q", a) == fmt.Sprintf("%q", b) }

func up(name string, old, new uint64) api.RefUpdate {
	return api.RefUpdate{Name: name, Old: api.Digest{old}, New: api.Digest{new}}
}

func TestExample(t *testing.T) {
	r, e := refs.Update(api.Refs{}, up("trunk", 0, 5))
	if e != api.OK || !same(r.Refs, []api.Ref{{Name: "trunk", Digest: api.Digest{5}}}) {
		t.Error("P11.1", r, e)
	}
	if x, e := refs.Update(r, up("trunk", 0, 5)); e != api.ErrConflict || !same(x, api.Refs{}) {
		t.Error("P11.1", e)
	}
}

func TestRandom(t *testing.T) {
	r := rand.New(rand.NewSource(1))
	for range 50 {
		var x api.Refs
		at := [][]api.Ref{nil}
		for range 20 {
			u := up([]string{"a", "a/b", "b"}[r.Intn(3)], uint64(r.Intn(3)), uint64(r.Intn(3)))
			d, f := refs.Get(x, u.Name)
			y, e := refs.Update(x, u)
			z, g := refs.Apply(x, []api.RefUpdate{u})
			if (e == api.OK) != (u.Old != u.New && d == u.Old) || e != g || !same(y, z) {
				t.Fatal("P11.4", e, f, g)
			}
			if e != api.OK {
				continue
			}
			if !slices.Equal(y.Log[:len(x.Log)], x.Log) || refs.Check(y) != api.OK {
				t.Error("P11.2")
			}
			back, e := refs.Update(y, api.RefUpdate{Name: u.Name, Old: u.New, New: u.Old})
			if e != api.OK || !slices.Equal(back.Refs, x.Refs) {
				t.Error("P11.4", e)
			}
			x, at = y, append(at, y.Refs)
		}
		for i, want := range at {
			if l, e := refs.At(x, i); e != api.OK || !slices.Equal(l, want) {
				t.Error("P11.2", e)
			}
		}
		all, e := refs.Apply(api.Refs{}, x.Log)
		s, f := refs.Encode(x.Log)
		l, g := refs.Decode(s)
		if e != api.OK || f != api.OK || g != api.OK || !same(all, x) || !slices.Equal(l, x.Log) {
			t.Error("P11.3, P11.5", e, f, g)
		}
		if y, e := refs.Apply(x, []api.RefUpdate{up("new", 0, 1), up("new", 0, 1)}); e != api.ErrConflict || !same(y, api.Refs{}) {
			t.Error("P11.3", e)
		}
	}
}

func TestErrors(t *testing.T) {
	var long []api.RefUpdate
	for i := range 1000 {
		long = append(long, up("a", uint64(i), uint64(i+1)))
	}
	full, e := refs.Apply(api.Refs{}, long)
	if e != api.OK {
		t.Fatal("P11.1", e)
	}
	ref := []api.Ref{{Name: "a", Digest: api.Digest{1}}}
	for k, x := range []struct {
		r api.Refs
		e api.Errno
	}{
		{api.Refs{}, api.OK}, {full, api.OK}, {api.Refs{Log: make([]api.RefUpdate, 1001)}, api.ErrLimit}, {api.Refs{Log: []api.RefUpdate{up("", 0, 0)}}, api.ErrName},
		{api.Refs{Log: []api.RefUpdate{up("a", 1, 1)}}, api.ErrArgument}, {api.Refs{Log: []api.RefUpdate{up("a", 1, 2)}}, api.ErrConflict}, {api.Refs{Log: []api.RefUpdate{up("a", 0, 1)}}, api.ErrMismatch},
		{api.Refs{Refs: ref}, api.ErrMismatch}, {api.Refs{Refs: ref, Log: []api.RefUpdate{up("a", 0, 1)}}, api.OK}, {api.Refs{Refs: ref, Log: []api.RefUpdate{up("a", 0, 2)}}, api.ErrMismatch},
	} {
		if e := refs.Check(x.r); e != x.e {
			t.Error("P11.1: Check", k, e)
		}
		if x.e == api.OK {
			continue
		}
		if d, e := refs.Get(x.r, ""); e != x.e || d != (api.Digest{}) {
			t.Error("P11.1: Get", k, e)
		}
		if y, e := refs.Update(x.r, up("", 0, 0)); e != x.e || !same(y, api.Refs{}) {
			t.Error("P11.1: Update", k, e)
		}
		if l, e := refs.At(x.r, -1); e != x.e || len(l) != 0 {
			t.Error("P11.1: At", k, e)
		}
	}
	for k, x := range []struct {
		u api.RefUpdate
		e api.Errno
	}{{up("a//b", 1, 1), api.ErrName}, {up(strings.Repeat("a/", 50)+"b", 0, 1), api.ErrName}, {up("a", 7, 7), api.ErrArgument}, {up("a", 0, 7), api.ErrConflict}, {up("a", 1000, 7), api.ErrLimit}} {
		if y, e := refs.Update(full, x.u); e != x.e || !same(y, api.Refs{}) {
			t.Error("P11.1: Update", k, e)
		}
	}
	for _, n := range []int{-1, 1001} {
		if l, e := refs.At(full, n); e != api.ErrRange || len(l) != 0 {
			t.Error("P11.1: At", e)
		}
	}
	if _, e := refs.Get(full, "a b"); e != api.ErrName {
		t.Error("P11.1: Get", e)
	}
	if _, e := refs.Get(full, "b"); e != api.ErrNotFound {
		t.Error("P11.1: Get", e)
	}
	if s, e := refs.Encode(append(long, up("", 0, 0))); s != "" || e != api.ErrLimit {
		t.Error("P11.1: Encode", e)
	}
	if s, e := refs.Encode([]api.RefUpdate{up("a", 1, 1), up("", 0, 1)}); s != "" || e != api.ErrArgument {
		t.Error("P11.1: Encode", e)
	}
	s, _ := refs.Encode(long[:1])
	for _, bad := range []string{"", s[:len(s)-1], s + "\x00", "\x02" + s[1:], "\x01\x01/" + s[3:], s[:3] + s[19:] + s[19:], "\x81\x00" + s[1:]} {
		if l, e := refs.Decode(bad); e != api.ErrDecode || len(l) != 0 {
			t.Errorf("P11.5: %q", bad)
		}
	}
}
