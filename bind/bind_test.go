package bind_test

import (
	"fmt"
	"slices"
	"strings"
	"testing"

	"cordwood/api"
	"cordwood/bind"
	"cordwood/digest"
	"cordwood/parser"
	"cordwood/syntax"
)

func same(a, b any) bool { return fmt.Sprint(a) == fmt.Sprint(b) }

func parse(t *testing.T, s string) api.Source {
	t.Helper()
	f, at, e := parser.Parse(s)
	if e != api.OK {
		t.Fatal(s, at, e)
	}
	return f
}

func iface(label string, sigs ...api.Sig) api.Interface {
	return api.Interface{Label: label, Sigs: sigs}
}

var known = []api.Interface{iface("a/m", api.Sig{Id: 3, Name: "f"}, api.Sig{Id: 4, Name: "g"}), iface("n", api.Sig{Id: 1, Name: "f"}), iface("n", api.Sig{Id: 2, Name: "z"})}

func module(t *testing.T, s string) api.Module {
	t.Helper()
	m, e := bind.Bind("me", parse(t, s), known)
	if e != api.OK || bind.Check(m) != api.OK {
		t.Fatal("P24.1: Bind", s, e)
	}
	return m
}

func TestExample(t *testing.T) {
	m := module(t, "let f @7 = (fun x -> (x + y)) ; let y @9 = 1 ;")
	if r := m.Decls[0].Body.Sub[0].Sub[1]; !same(r, api.Expr{Kind: api.RefExpr, Int: 9}) {
		t.Error("P24.1", r)
	}
	m, e := bind.Rename(m, 9, "x")
	if e != api.OK {
		t.Error("P24.1", e)
	}
	if f, e := bind.Unbind(m, nil); e != api.ErrName || !same(f, api.Source{}) {
		t.Error("P24.1", e)
	}
}

func TestRoundTrip(t *testing.T) {
	for _, s := range []string{
		"", "let a @1 = (let b = b in (b + (fun b -> (b a)))) ; let b @2 = (case a of nil -> x | x :: a -> (x :: a)) ; let x @3 = nil ;",
		"use a/m ; use n ; let f @1 = (m.f n.f) ; test t || nil || u @2 = (if true then m.g else f) ;", "conflict pub flaky q @5 = (conflict (chance 1 of 2) || q || (let q = 1 in q)) ;",
	} {
		f := parse(t, s)
		m := module(t, s)
		g, e := bind.Unbind(m, known)
		if e != api.OK || !same(f, g) {
			t.Error("P24.2", s, e)
		}
		if again, e := bind.Bind("me", g, known); e != api.OK || !same(again, m) {
			t.Error("P24.2", s, e)
		}
	}
	m := module(t, "use a/m ; let f @1 = (m.f 2) ; let g @2 = (f (fun f -> f)) ; let h @3 = g ;")
	r, e := bind.Rename(m, 1, "new")
	f, _ := bind.Unbind(r, known)
	text, _ := syntax.Text(f)
	if e != api.OK || text != "use a/m ;\nlet new @1 = (m.f 2) ;\nlet g @2 = (new (fun f -> f)) ;\nlet h @3 = g ;\n" {
		t.Error("P24.3", text, e)
	}
	if l := bind.Refs(api.Expr{Sub: []api.Expr{m.Decls[1].Body, m.Decls[0].Body, m.Decls[2].Body, m.Decls[0].Body}}); !same(l, []api.Name{{Id: 1}, {Id: 2}, {Pack: "a/m", Id: 3}}) {
		t.Error("P24.1: Refs", l)
	}
}

func TestNumber(t *testing.T) {
	of := func(s string) int { return 1 + int(digest.Of(s)[0]%999999) }
	f := parse(t, "let x @5 = 1 ; let a = 1 ; let b = 1 ; let c || a || b = 1 ; let d = 1 ;")
	old := parse(t, fmt.Sprintf("let a @3 = 1 ; let b @5 = 1 ; let e @%d = 1 ;", of("d")))
	g, e := bind.Number(f, old)
	want := map[string]int{"x": 5, "a": 3, "b": of("b"), "c": of("c"), "d": of("d") + 1}
	for i, d := range g.Decls {
		if want[d.Names[0]] != d.Id || i > 0 && g.Decls[i-1].Id >= d.Id {
			t.Error("P24.1: Number", d.Names, d.Id)
		}
	}
	if again, f := bind.Number(g, old); e != api.OK || f != api.OK || !same(again, g) || len(g.Decls) != 5 {
		t.Error("P24.4", e, f)
	}
	// Only the first declaration of old with this name counts, even if its Id is taken.
	g, _ = bind.Number(parse(t, "let y @1 = 1 ; let a = 1 ;"), parse(t, "let a || b || c @1 = 1 ; let a @2 = 2 ;"))
	if i := slices.IndexFunc(g.Decls, func(d api.Decl) bool { return d.Names[0] == "a" }); g.Decls[i].Id != of("a") {
		t.Error("P24.1: Number", g)
	}
	bad := api.Source{Uses: []string{""}}
	if g, e := bind.Number(bad, api.Source{Decls: make([]api.Decl, 101)}); e != api.ErrName || !same(g, api.Source{}) {
		t.Error("P24.1: Number", e)
	}
	if g, e := bind.Number(api.Source{}, bad); e != api.ErrName || !same(g, api.Source{}) {
		t.Error("P24.1: Number", e)
	}
}

func TestBindErrors(t *testing.T) {
	for k, x := range []struct {
		label, s string
		e        api.Errno
	}{
		{"A", "let a = 1 ;", api.ErrName}, {"me", "let a = 1 ;", api.ErrRange}, {"me", "use if ; use zz ;", api.ErrName}, {"me", "use a/n ; use n ;", api.ErrNotFound}, {"me", "use a/m ; use b/m ;", api.ErrExists}, {"a/m", "use a/m ;", api.ErrCycle},
		{"me", "let a @1 = b ;", api.ErrScope}, {"me", "use n ; let a @1 = n.z ;", api.ErrScope}, {"me", "let a @1 = n.f ;", api.ErrScope}, {"me", "use n ; let a @1 = n ;", api.ErrScope}, {"me", "let a || b || c @1 = 1 ; let d @2 = a ;", api.ErrScope}, {"me", "let a @1 = (let x = x in x) ;", api.ErrScope}, {"if", "let a @1 = a ;", api.OK}, {"x/if", "", api.OK},
	} {
		if m, e := bind.Bind(x.label, parse(t, x.s), known); e != x.e || e != api.OK && !same(m, api.Module{}) {
			t.Error("P24.5: Bind", k, e)
		}
	}
	if _, e := bind.Bind("me", api.Source{Uses: []string{"b", "a"}}, nil); e != api.ErrOrder {
		t.Error("P24.1: Bind", e)
	}
	many := []api.Interface{iface("n", api.Sig{Id: 0, Name: "f"}, api.Sig{Id: 7, Name: "f"}, api.Sig{Id: 8, Name: "f"}, api.Sig{Id: 7, Name: "k"})}
	m, e := bind.Bind("me", parse(t, "use n ; let a @1 = (n.f n.k) ;"), many)
	if e != api.OK || m.Decls[0].Body.Sub[0].Int != 7 || m.Decls[0].Body.Sub[1].Int != 7 {
		t.Error("P24.1: the first signature that counts", e)
	}
	for s, want := range map[string]string{"a": "a", "a/b": "b", "A": "", "": "", "a/if": "if"} {
		if bind.Alias(s) != want {
			t.Error("P24.1: Alias", s)
		}
	}
}

func ref(name string, id int) api.Expr { return api.Expr{Kind: api.RefExpr, Name: name, Int: id} }

func decl(id int, name string, body api.Expr) api.Decl {
	return api.Decl{Id: id, Kind: api.LetDecl, Names: []string{name}, Body: body}
}

func TestCheck(t *testing.T) {
	one := api.Expr{Kind: api.IntExpr, Int: 1}
	decls := func(l ...api.Decl) api.Module { return api.Module{Label: "me", Uses: []string{"n"}, Decls: l} }
	var uses []string
	for i := range 21 {
		uses = append(uses, fmt.Sprintf("u%02d", i))
	}
	var many []api.Decl
	for i := range 101 {
		many = append(many, decl(i+1, "x", one))
	}
	for k, x := range []struct {
		m api.Module
		e api.Errno
	}{
		{api.Module{}, api.ErrName}, {api.Module{Label: "me", Uses: uses}, api.ErrLimit}, {api.Module{Label: "me", Uses: []string{"-"}}, api.ErrName}, {api.Module{Label: "me", Uses: []string{"z", "if"}}, api.ErrOrder}, {api.Module{Label: "me", Uses: []string{"if"}}, api.ErrName}, {api.Module{Label: "me", Uses: []string{"a/x", "b/x"}}, api.ErrExists}, {api.Module{Label: "me", Uses: []string{"me"}, Decls: many}, api.ErrCycle},
		{decls(many...), api.ErrLimit}, {decls(many[:100]...), api.OK}, {decls(decl(0, "", one)), api.ErrRange}, {decls(api.Decl{Id: 1, Kind: 9}), api.ErrKind}, {decls(api.Decl{Id: 1, Kind: 1, Names: []string{"a", "b"}}), api.ErrArgument}, {decls(decl(1, "", api.Expr{})), api.ErrName}, {decls(decl(1, "a", api.Expr{})), api.ErrKind},
		{decls(decl(1, "a", api.Expr{Kind: api.OpExpr, Name: "+", Sub: []api.Expr{{Kind: api.VarExpr, Name: "x"}, {Kind: api.DotExpr, Name: "a", More: "b"}}})), api.ErrKind}, {decls(decl(1, "a", api.Expr{Kind: api.OpExpr, Name: "+", Sub: []api.Expr{ref("me", 1), {Kind: api.VarExpr, Name: "x"}}})), api.ErrScope},
		{decls(decl(1, "a", ref("me", 1))), api.ErrArgument}, {decls(decl(2, "a", one), decl(2, "b", one)), api.ErrOrder}, {decls(decl(2, "a", one), decl(1, "b", ref("me", 1))), api.ErrArgument}, {decls(decl(1, "a", ref("gone", 9)), decl(2, "a", ref("", 77))), api.OK},
	} {
		if e := bind.Check(x.m); e != x.e {
			t.Error("P24.1: Check", k, e, x.e)
		}
		if x.e == api.OK {
			continue
		}
		if f, e := bind.Unbind(x.m, known); e != x.e || !same(f, api.Source{}) {
			t.Error("P24.1: Unbind", k, e)
		}
		if m, e := bind.Rename(x.m, 1, ""); e != x.e || !same(m, api.Module{}) {
			t.Error("P24.1: Rename", k, e)
		}
	}
	for k, x := range []struct {
		m api.Module
		e api.Errno
	}{
		{decls(decl(1, "a", ref("gone", 9)), decl(2, "a", one)), api.ErrConflict}, {decls(decl(1, "a", ref("", 9))), api.ErrScope}, {decls(decl(1, "a", ref("gone", 9))), api.ErrScope}, {decls(decl(1, "a", ref("n", 2))), api.ErrScope}, {decls(decl(1, "a", ref("n", 1))), api.OK},
		{decls(api.Decl{Id: 1, Kind: 1, Names: []string{"a", "", "b"}, Body: ref("", 1)}), api.ErrConflict}, {decls(decl(1, "a", api.Expr{Kind: api.LetExpr, Name: "a", Sub: []api.Expr{ref("", 1), one}})), api.OK}, {decls(decl(1, "a", api.Expr{Kind: api.LetExpr, Name: "a", Sub: []api.Expr{one, ref("", 1)}})), api.ErrName},
		{decls(decl(1, "a", api.Expr{Kind: api.FunExpr, Name: "a", Sub: []api.Expr{{Kind: api.CallExpr, Sub: []api.Expr{ref("", 5), ref("", 1)}}}})), api.ErrScope}, {decls(decl(1, "a", api.Expr{Kind: api.CaseExpr, Name: "x", More: "a", Sub: []api.Expr{ref("", 1), ref("", 1), ref("", 1)}})), api.ErrName},
	} {
		if f, e := bind.Unbind(x.m, known); e != x.e || e != api.OK && !same(f, api.Source{}) {
			t.Error("P24.1: Unbind", k, e)
		}
	}
	m := decls(decl(1, "a", one), decl(2, "b", one))
	for k, x := range []struct {
		id   int
		name string
		e    api.Errno
	}{{9, "if", api.ErrName}, {9, "b", api.ErrNotFound}, {1, "b", api.ErrExists}, {2, "b", api.OK}, {1, strings.Repeat("x", 24), api.OK}} {
		if m, e := bind.Rename(m, x.id, x.name); e != x.e || e != api.OK && !same(m, api.Module{}) {
			t.Error("P24.1: Rename", k, e)
		}
	}
}
