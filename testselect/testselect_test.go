package testselect_test

import (
	"fmt"
	"math/rand"
	"slices"
	"testing"

	"cordwood/api"
	"cordwood/depend"
	"cordwood/eval"
	"cordwood/testselect"
)

func name(id int) api.Name { return api.Name{Pack: "m", Id: id} }

func decl(id, kind, n int, refs ...int) api.Decl {
	e := api.Expr{Kind: api.IntExpr, Int: n}
	for _, r := range refs {
		e = api.Expr{Kind: api.OpExpr, Name: "+", Sub: []api.Expr{e, {Kind: api.RefExpr, Int: r}}}
	}
	if kind != api.LetDecl {
		e = api.Expr{Kind: api.OpExpr, Name: "=", Sub: []api.Expr{e, {Kind: api.IntExpr, Int: 1}}}
	}
	return api.Decl{Id: id, Kind: kind, Names: []string{fmt.Sprint("f", id)}, Body: e}
}

func modules(l ...api.Decl) []api.Module { return []api.Module{{Label: "m", Decls: l}} }

func TestExample(t *testing.T) {
	old := modules(decl(1, 1, 1), decl(2, 1, 1), decl(3, 2, 0, 1), decl(4, 2, 0, 2), decl(5, 3, 0))
	new := modules(decl(1, 1, 2), decl(2, 1, 1), decl(3, 2, 0, 1), decl(4, 2, 0, 2), decl(5, 3, 0), decl(6, 2, 1), decl(7, 2, 1, 99))
	run, reuse := testselect.Select(old, new)
	if !slices.Equal(run, []api.Name{name(3), name(6), name(7)}) || !slices.Equal(reuse, []api.Name{name(4)}) {
		t.Error("P50.1", run, reuse)
	}
	if l := testselect.Tests(append(old, modules(decl(9, 2, 1))...)); !slices.Equal(l, []api.Name{name(3), name(4)}) {
		t.Error("P50.1: the first module counts", l)
	}
	odd := []api.Module{{Label: "z", Decls: []api.Decl{{Id: 2, Kind: 2}, {Id: 1, Kind: 2}, {Id: 1, Kind: 1}, {Id: 3, Kind: 1}, {Id: 3, Kind: 2}}}, {Label: "?", Decls: []api.Decl{{Id: -1, Kind: 2}}}}
	if l := testselect.Tests(odd); !slices.Equal(l, []api.Name{{Pack: "?", Id: -1}, {Pack: "z", Id: 1}, {Pack: "z", Id: 2}}) {
		t.Error("P50.1: any modules", l)
	}
	if run, reuse := testselect.Select(odd, odd); len(run) != 3 || len(reuse) != 0 {
		t.Error("P50.1: no keys", run, reuse)
	}
	// A declaration that was no test before is run.
	if run, reuse := testselect.Select(modules(decl(1, 3, 0)), modules(decl(1, 2, 0))); len(run) != 1 || len(reuse) != 0 {
		t.Error("P50.1", run, reuse)
	}
}

func TestCertificates(t *testing.T) {
	l := modules(decl(1, 1, 1), decl(2, 1, 1), decl(3, 2, 0, 1), decl(5, 3, 0), decl(7, 2, 1, 99))
	c, e := testselect.Certify(l, name(3))
	key, _ := depend.Key(l, name(3))
	if e != api.OK || c.Test != name(3) || !slices.Equal(c.Names, []api.Name{name(1), name(3)}) || c.Key != key || !testselect.Verify(l, c) {
		t.Error("P50.4", c, e)
	}
	for n, want := range map[int]api.Errno{1: api.ErrKind, 5: api.ErrKind, 7: api.ErrScope, 9: api.ErrNotFound} {
		if c, e := testselect.Certify(l, name(n)); e != want || c.Key != "" || len(c.Names) != 0 {
			t.Error("P50.1: Certify", n, e)
		}
	}
	if _, e := testselect.Certify(append(l, api.Module{}), name(3)); e != api.ErrName {
		t.Error("P50.1: Certify", e)
	}
	for _, f := range []func(c *api.Certificate){func(c *api.Certificate) { c.Key += "x" }, func(c *api.Certificate) { c.Names = c.Names[1:] }, func(c *api.Certificate) { c.Test.Id = 4 }, func(c *api.Certificate) { *c = api.Certificate{} }} {
		bad := c
		f(&bad)
		if testselect.Verify(l, bad) {
			t.Error("P50.1: Verify", bad)
		}
	}
	other := modules(decl(1, 1, 1), decl(2, 1, 77), decl(3, 2, 0, 1))
	if !testselect.Verify(other, c) || testselect.Verify(modules(decl(1, 1, 2), decl(3, 2, 0, 1)), c) {
		t.Error("P50.5")
	}
}

func TestRandom(t *testing.T) {
	r := rand.New(rand.NewSource(1))
	random := func() []api.Module {
		var l []api.Decl
		for id := 1; id < 8; id++ {
			if r.Intn(8) > 0 {
				l = append(l, decl(id, 1+id/5, r.Intn(2), 1+r.Intn(5)))
			}
		}
		return modules(l...)
	}
	count := 0
	for range 300 {
		old, new := random(), random()
		run, reuse := testselect.Select(old, new)
		if all := slices.Concat(run, reuse); len(all) != len(testselect.Tests(new)) || !slices.IsSortedFunc(run, func(a, b api.Name) int { return a.Id - b.Id }) {
			t.Error("P50.2")
		}
		for _, n := range testselect.Tests(new) {
			c, e := testselect.Certify(old, n)
			if e == api.OK && testselect.Verify(new, c) != slices.Contains(reuse, n) {
				t.Error("P50.4")
			}
			if slices.Contains(reuse, n) {
				count++
				if eval.Test(old, n, 500, 1) != eval.Test(new, n, 500, 1) {
					t.Error("P50.3")
				}
			}
		}
		again, same := testselect.Select(new, new)
		for _, n := range again {
			if _, e := depend.Key(new, n); e == api.OK {
				t.Error("P50.2")
			}
		}
		if len(again)+len(same) != len(testselect.Tests(new)) {
			t.Error("P50.2")
		}
	}
	if count == 0 {
		t.Error("P50.3: none")
	}
}
