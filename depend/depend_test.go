package depend_test

import (
	"fmt"
	"math/rand"
	"slices"
	"testing"

	"cordwood/api"
	"cordwood/bind"
	"cordwood/depend"
	"cordwood/eval"
)

func name(pack string, id int) api.Name { return api.Name{Pack: pack, Id: id} }

func num(n int) api.Expr { return api.Expr{Kind: api.IntExpr, Int: n} }

func ref(pack string, id int) api.Expr { return api.Expr{Kind: api.RefExpr, Name: pack, Int: id} }

func decl(id int, body ...api.Expr) api.Decl {
	e := num(id)
	for _, x := range body {
		e = api.Expr{Kind: api.OpExpr, Name: "+", Sub: []api.Expr{e, x}}
	}
	return api.Decl{Id: id, Kind: 1, Names: []string{fmt.Sprint("f", id)}, Body: e}
}

func module(label string, l ...api.Decl) api.Module {
	m := api.Module{Label: label, Decls: l}
	if label == "b" {
		m.Uses = []string{"a"}
	}
	return m
}

var modules = []api.Module{module("a", decl(1, ref("", 2)), decl(2), decl(3, ref("", 3)), decl(4, ref("", 9)), decl(5, api.Expr{Kind: api.IfExpr, Sub: []api.Expr{{Kind: api.ChanceExpr, Int: 1, Den: 2}, num(1), num(2)}})), module("b", decl(1, ref("a", 1), ref("", 2)), decl(2, ref("a", 5)), decl(7, ref("zz", 1), ref("a", 2), ref("", 1), ref("", 1)))}

func TestClosure(t *testing.T) {
	for k, x := range []struct {
		n     api.Name
		names []api.Name
		flaky bool
		e     api.Errno
	}{
		{name("a", 1), []api.Name{name("a", 1), name("a", 2)}, false, api.OK}, {name("a", 2), []api.Name{name("a", 2)}, false, api.OK}, {name("a", 3), []api.Name{name("a", 3)}, false, api.OK}, {name("b", 1), []api.Name{name("a", 1), name("a", 2), name("a", 5), name("b", 1), name("b", 2)}, true, api.OK}, {name("a", 5), []api.Name{name("a", 5)}, true, api.OK},
		{name("a", 4), nil, false, api.ErrScope}, {name("b", 7), nil, false, api.ErrScope}, {name("a", 9), nil, false, api.ErrNotFound}, {name("c", 1), nil, false, api.ErrNotFound},
	} {
		l, e := depend.Closure(modules, x.n)
		if e != x.e || !slices.Equal(l, x.names) {
			t.Error("P40.1: Closure", k, l, e)
		}
		if ok, e := depend.Flaky(modules, x.n); ok != x.flaky || e != x.e {
			t.Error("P40.1: Flaky", k, ok, e)
		}
		if s, e := depend.Key(modules, x.n); e != x.e || (s == "") != (e != api.OK) {
			t.Error("P40.1: Key", k, e)
		}
		for _, n := range l {
			used, _ := depend.Uses(modules, n)
			for _, y := range used {
				if !slices.Contains(l, y) {
					t.Error("P40.2", k)
				}
			}
			if n != x.n && !slices.ContainsFunc(l, func(m api.Name) bool { u, _ := depend.Uses(modules, m); return slices.Contains(u, n) }) {
				t.Error("P40.2", k, n)
			}
		}
	}
	if l, e := depend.Uses(modules, name("b", 7)); e != api.OK || !slices.Equal(l, []api.Name{name("a", 2), name("b", 1), name("zz", 1)}) {
		t.Error("P40.1: Uses", l, e)
	}
	if l, e := depend.Uses(modules, name("b", 9)); e != api.ErrNotFound || len(l) != 0 {
		t.Error("P40.1: Uses", e)
	}
	bad := append(slices.Clone(modules), api.Module{Label: "A"})
	if _, e := depend.Uses(bad, name("b", 9)); e != api.ErrName {
		t.Error("P40.1: Uses", e)
	}
	if _, e := depend.Key(bad, name("b", 9)); e != api.ErrName {
		t.Error("P40.1: Key", e)
	}
	if l, e := depend.Closure(append(modules, module("a", decl(9))), name("a", 9)); e != api.ErrNotFound || len(l) != 0 {
		t.Error("P40.1: the first module counts", e)
	}
}

func TestKey(t *testing.T) {
	want := "\x01a\x01" + "\x01a\x01" + "\x0a\x01+\x00\x00\x00\x02" + "\x01\x00\x00\x02\x00\x00" + "\x05\x01a\x00\x04\x00\x00" + "\x01a\x02" + "\x01\x00\x00\x04\x00\x00"
	if s, e := depend.Key(modules, name("a", 1)); s != want || e != api.OK {
		t.Errorf("P40.1: %q %d", s, e)
	}
	if s, _ := depend.Key([]api.Module{module("a", api.Decl{Id: 1, Kind: 1, Names: []string{"x"}, Body: num(-3)})}, name("a", 1)); s != "\x01a\x01\x01a\x01\x01\x00\x00\x07\x00\x00" {
		t.Errorf("P40.1: %q", s)
	}
	r, _ := bind.Rename(modules[0], 1, "other")
	a, _ := depend.Key(modules, name("b", 1))
	b, _ := depend.Key([]api.Module{r, modules[1]}, name("b", 1))
	if a != b || a == "" {
		t.Error("P40.3")
	}
	public := slices.Clone(modules[0].Decls)
	public[0].Public, public[0].Kind = true, api.TestDecl
	if c, _ := depend.Key([]api.Module{module("a", public...), modules[1]}, name("b", 1)); c != a {
		t.Error("P40.3")
	}
}

func TestRandom(t *testing.T) {
	r := rand.New(rand.NewSource(1))
	random := func() []api.Module {
		var l []api.Decl
		for id := 1; id < 6; id++ {
			if r.Intn(8) == 0 {
				continue
			}
			body := []api.Expr{num(r.Intn(2))}
			for range r.Intn(3) {
				body = append(body, ref("", 1+r.Intn(5)))
			}
			l = append(l, decl(id, body...))
		}
		return []api.Module{module("a", l...)}
	}
	equal := 0
	for range 500 {
		a, b := random(), random()
		changed := depend.Changed(a, b)
		if !slices.Equal(changed, depend.Changed(b, a)) {
			t.Error("P40.6")
		}
		for id := 1; id < 6; id++ {
			n := name("a", id)
			x, e := depend.Key(a, n)
			y, f := depend.Key(b, n)
			same := e == api.OK && f == api.OK && x == y
			if slices.Contains(changed, n) != (!same && (e != api.ErrNotFound || f != api.ErrNotFound)) {
				t.Error("P40.1: Changed", id)
			}
			if slices.Contains(depend.Changed(a, a), n) != (e == api.ErrScope) {
				t.Error("P40.6")
			}
			if !same {
				continue
			}
			equal++
			v, k, g := eval.Decl(a, n, 1000, 7)
			w, m, h := eval.Decl(b, n, 1000, 9)
			if k != m || g != h || fmt.Sprint(v) != fmt.Sprint(w) {
				t.Error("P40.5, P40.7")
			}
			names, _ := depend.Closure(a, n)
			outside := slices.DeleteFunc(slices.Clone(a[0].Decls), func(d api.Decl) bool { return !slices.Contains(names, name("a", d.Id)) })
			if z, e := depend.Key([]api.Module{module("a", outside...), module("c")}, n); z != x || e != api.OK {
				t.Error("P40.4", e)
			}
		}
	}
	if equal == 0 {
		t.Error("P40.5: none")
	}
	bad := []api.Module{module("a", decl(1)), {Label: "B", Decls: []api.Decl{decl(2)}}}
	if l := depend.Changed(bad, bad); !slices.Equal(l, []api.Name{name("B", 2), name("a", 1)}) {
		t.Error("P40.6", l)
	}
}
