package infer_test

import (
	"fmt"
	"slices"
	"strings"
	"testing"

	"cordwood/api"
	"cordwood/bind"
	"cordwood/infer"
	"cordwood/parser"
	"cordwood/types"
)

func same(a, b any) bool { return fmt.Sprint(a) == fmt.Sprint(b) }

func scheme(t *testing.T, s string) api.Scheme {
	t.Helper()
	x, e := types.Parse(s)
	if e != api.OK {
		t.Fatal(s, e)
	}
	return x
}

func known(t *testing.T) []api.Interface {
	return []api.Interface{{Label: "a/m", Sigs: []api.Sig{{Id: 1, Name: "f", Scheme: scheme(t, "(a -> (list a))")}, {Id: 2, Name: "g", Scheme: scheme(t, "int")}, {Id: 3, Name: "bad", Scheme: api.Scheme{Vars: 3, Type: api.Type{Kind: api.IntType}}}, {Id: 3, Name: "worse", Scheme: scheme(t, "int")}, {Id: 4, Name: "free", Scheme: api.Scheme{Type: api.Type{Kind: api.VarType}}}}}}
}

func module(t *testing.T, s string) api.Module {
	t.Helper()
	f, at, e := parser.Parse(s)
	if e != api.OK {
		t.Fatal(s, at, e)
	}
	m, e := bind.Bind("me", f, known(t))
	if e != api.OK {
		t.Fatal(s, e)
	}
	return m
}

func TestExample(t *testing.T) {
	m := module(t, "let f @1 = (fun x -> x) ; let g @2 = (fun x -> (h x)) ; let h @3 = (fun x -> (g (x + 1))) ;")
	l, id, e := infer.Module(m, nil)
	if e != api.OK || id != 0 || !same(l, []api.Sig{{Id: 1, Name: "f", Scheme: scheme(t, "(a -> a)")}, {Id: 2, Name: "g", Scheme: scheme(t, "(int -> a)")}, {Id: 3, Name: "h", Scheme: scheme(t, "(int -> a)")}}) {
		t.Error("P25.1", l, id, e)
	}
	if g, e := infer.Groups(m); e != api.OK || !same(g, [][]int{{1}, {2, 3}}) {
		t.Error("P25.1", g, e)
	}
	if l, id, e := infer.Module(module(t, "let f @1 = (fun x -> (x x)) ;"), nil); len(l) != 0 || id != 1 || e != api.ErrType {
		t.Error("P25.1", l, id, e)
	}
}

func TestSchemes(t *testing.T) {
	for body, want := range map[string]string{
		"1": "int", "true": "bool", "(chance 1 of 2)": "bool", "nil": "(list a)", "m.f": "(a -> (list a))", "(m.f m.g)": "(list int)", "(m.f m.f)": "(list (a -> (list a)))", "(fun x -> (fun y -> x))": "(a -> (b -> a))", "(let x = (fun y -> y) in x)": "(a -> a)", "(let x = (fun y -> y) in ((x x) 1))": "",
		"(if true then 1 else 2)": "int", "(if 1 then 1 else 2)": "", "(if true then 1 else true)": "", "(1 + 2)": "int", "(1 - 2)": "int", "(1 * 2)": "int", "(1 = 2)": "bool", "(1 < 2)": "bool", "(true = true)": "", "(1 + nil)": "", "(1 :: nil)": "(list int)", "(1 :: 2)": "", "(1 :: (true :: nil))": "",
		"(fun l -> (case l of nil -> 0 | x :: y -> (x + 1)))": "((list int) -> int)", "(fun l -> (case l of nil -> nil | x :: y -> y))": "((list a) -> (list a))", "(case 1 of nil -> 0 | x :: y -> 1)": "", "(case nil of nil -> 0 | x :: y -> true)": "", "(1 2)": "", "(fun x -> (x 1))": "((int -> a) -> a)", "f": "a", "(fun f -> f)": "(a -> a)", "(fun x -> (f (f x)))": "(a -> a)",
		"(fun x -> (fun y -> (if x then y else (y + 1))))": "(bool -> (int -> int))", "(case nil of nil -> nil | x :: x2 -> (x :: x2))": "(list a)",
	} {
		m := module(t, "use a/m ; let f @1 = "+body+" ;")
		l, id, e := infer.Module(m, known(t))
		if want == "" {
			if e != api.ErrType || id != 1 || len(l) != 0 {
				t.Error("P25.1", body, l, e)
			}
			continue
		}
		if e != api.OK || !same(l[0].Scheme, scheme(t, want)) || !infer.Typed(m, known(t), l) {
			t.Error("P25.3", body, l, e)
			continue
		}
		composed(t, body, l[0].Scheme)
	}
}

// composed checks the types of a function and of a binding with a body.
func composed(t *testing.T, body string, s api.Scheme) {
	t.Helper()
	if strings.Contains(body, "f ") || body == "f" {
		return
	}
	l, _, e := infer.Module(module(t, "use a/m ; let f @1 = (fun none -> "+body+") ; let g @2 = (let none = "+body+" in none) ; let h @3 = g ;"), known(t))
	if e != api.OK || !same(l[1].Scheme, s) || !same(l[2].Scheme, s) || !types.Instance(l[0].Scheme, api.Type{Kind: api.FunType, Sub: []api.Type{{Kind: api.BoolType}, s.Type}}) || l[0].Scheme.Vars != s.Vars+1 {
		t.Error("P25.5", body, l, e)
	}
}

func TestGroups(t *testing.T) {
	m := module(t, "let a @1 = d ; let b @2 = (c a) ; let c @3 = b ; let d @4 = 1 ; let e @5 = e ; let f @6 = 1 ;")
	g, e := infer.Groups(m)
	if e != api.OK || !same(g, [][]int{{4}, {1}, {2, 3}, {5}, {6}}) {
		t.Error("P25.2", g, e)
	}
	if g, e := infer.Groups(module(t, "let b @1 = c ; let a @2 = 1 ; let c @3 = 1 ;")); e != api.OK || !same(g, [][]int{{2}, {3}, {1}}) {
		t.Error("P25.2", g, e)
	}
	m.Decls[0].Body.Int = 77
	if g, e := infer.Groups(m); e != api.ErrScope || len(g) != 0 {
		t.Error("P25.1: Groups", e)
	}
	if g, e := infer.Groups(api.Module{}); e != api.ErrName || len(g) != 0 {
		t.Error("P25.1: Groups", e)
	}
}

func TestErrors(t *testing.T) {
	ref := func(name string, id int) api.Expr { return api.Expr{Kind: api.RefExpr, Name: name, Int: id} }
	decl := func(id int, name string, body api.Expr) api.Decl {
		return api.Decl{Id: id, Kind: api.LetDecl, Names: []string{name}, Body: body}
	}
	one := api.Expr{Kind: api.IntExpr, Int: 1}
	three, doubt, test := decl(2, "a", one), decl(2, "b", one), decl(2, "b", one)
	three.Names, doubt.Doubt, test.Kind = []string{"a", "b", "c"}, true, api.TestDecl
	for k, x := range []struct {
		l  []api.Decl
		id int
		e  api.Errno
	}{
		{[]api.Decl{decl(0, "a", one)}, 0, api.ErrRange}, {[]api.Decl{decl(1, "a", one), three}, 2, api.ErrConflict}, {[]api.Decl{decl(1, "a", one), doubt}, 2, api.ErrConflict}, {[]api.Decl{decl(1, "a", one), decl(3, "a", one)}, 3, api.ErrConflict}, {[]api.Decl{decl(1, "a", api.Expr{Kind: api.SumExpr, Sub: []api.Expr{one, one, one}})}, 1, api.ErrConflict},
		{[]api.Decl{decl(1, "a", ref("", 9)), three}, 1, api.ErrScope}, {[]api.Decl{decl(1, "a", ref("n", 1))}, 1, api.ErrScope}, {[]api.Decl{decl(1, "a", ref("a/m", 9))}, 1, api.ErrScope}, {[]api.Decl{decl(1, "a", ref("a/m", 3))}, 1, api.ErrScope}, {[]api.Decl{decl(1, "a", ref("a/m", 4))}, 1, api.ErrScope}, {[]api.Decl{decl(1, "a", ref("z", 1))}, 1, api.ErrScope},
		{[]api.Decl{decl(1, "a", one), test}, 2, api.ErrType}, {[]api.Decl{decl(1, "a", ref("", 3)), decl(2, "b", api.Expr{Kind: api.CallExpr, Sub: []api.Expr{one, one}}), decl(3, "c", api.Expr{Kind: api.CallExpr, Sub: []api.Expr{one, ref("", 1)}})}, 1, api.ErrType}, {[]api.Decl{three, decl(3, "x", ref("", 99))}, 2, api.ErrConflict},
	} {
		m := api.Module{Label: "me", Uses: []string{"a/m", "z"}, Decls: x.l}
		if l, id, e := infer.Module(m, known(t)); len(l) != 0 || id != x.id || e != x.e {
			t.Error("P25.1: Module", k, id, e)
		}
		if infer.Typed(m, known(t), nil) {
			t.Error("P25.1: Typed", k)
		}
	}
	// Each pair doubles the type.
	s := "let a @1 = (fun x -> x) ; "
	for i := 2; i < 12; i++ {
		s += fmt.Sprintf("let f%d @%d = (fun k -> ((k f%d) f%d)) ; ", i, i, i-1, i-1)
	}
	s = strings.ReplaceAll(s, "f1)", "a)")
	s = strings.ReplaceAll(s, "f1 ", "a ")
	if l, id, e := infer.Module(module(t, s), nil); e != api.ErrLimit || len(l) != 0 || id < 4 || id > 8 {
		t.Error("P25.1: ErrLimit", id, e)
	}
}

func TestTyped(t *testing.T) {
	m := module(t, "let a @1 = (fun x -> x) ; let b @2 = (a 1) ; let c @3 = (a true) ;")
	sigs := func(l ...string) []api.Sig {
		var s []api.Sig
		for i, x := range l {
			s = append(s, api.Sig{Id: i + 1, Name: []string{"a", "b", "c"}[i], Scheme: scheme(t, x)})
		}
		return s
	}
	if !infer.Typed(m, nil, sigs("(a -> a)", "int", "bool")) || infer.Typed(m, nil, sigs("(int -> int)", "int", "bool")) || infer.Typed(m, nil, sigs("(a -> b)", "int", "bool")) || infer.Typed(m, nil, sigs("(a -> a)", "int")) || infer.Typed(m, nil, sigs("(a -> a)", "a", "bool")) {
		t.Error("P25.1: Typed")
	}
	less := module(t, "let a @1 = (fun x -> x) ; let b @2 = (a 1) ;")
	if !infer.Typed(less, nil, sigs("(int -> int)", "int")) || infer.Typed(less, nil, sigs("(bool -> bool)", "int")) {
		t.Error("P25.1: Typed")
	}
	wrong := sigs("(int -> int)", "int")
	wrong[0].Name = "b"
	if infer.Typed(less, nil, wrong) {
		t.Error("P25.1: Typed")
	}
	r, _ := bind.Rename(m, 1, "other")
	l, _, _ := infer.Module(r, nil)
	before, _, _ := infer.Module(m, nil)
	if !slices.EqualFunc(l, before, func(x, y api.Sig) bool { return same(x.Scheme, y.Scheme) }) {
		t.Error("P25.4")
	}
}
