package syntax_test

import (
	"fmt"
	"slices"
	"strings"
	"testing"

	"cordwood/api"
	"cordwood/lexer"
	"cordwood/syntax"
)

type ex = api.Expr

func num(n int) ex     { return ex{Kind: api.IntExpr, Int: n} }
func ref(s string) ex  { return ex{Kind: api.VarExpr, Name: s} }
func sub(l ...ex) []ex { return l }

func op(s string, a, b ex) ex  { return ex{Kind: api.OpExpr, Name: s, Sub: sub(a, b)} }
func fun(s string, a ex) ex    { return ex{Kind: api.FunExpr, Name: s, Sub: sub(a)} }
func let(s string, a, b ex) ex { return ex{Kind: api.LetExpr, Name: s, Sub: sub(a, b)} }

// all has an expression of each kind with its text.
func all() map[string]ex {
	a, b, c := ref("a"), num(-1), ex{Kind: api.NilExpr}
	return map[string]ex{
		"-999999999": num(-999999999), "true": {Kind: api.BoolExpr, Int: 1}, "false": {Kind: api.BoolExpr}, "a": a, "m.x": {Kind: api.DotExpr, Name: "m", More: "x"},
		"(fun x -> a)": fun("x", a), "(a -1)": {Kind: api.CallExpr, Sub: sub(a, b)}, "(let x = a in -1)": let("x", a, b), "(if a then -1 else nil)": {Kind: api.IfExpr, Sub: sub(a, b, c)},
		"(a + -1)": op("+", a, b), "(a - -1)": op("-", a, b), "(a * -1)": op("*", a, b), "(a = -1)": op("=", a, b), "(a < -1)": op("<", a, b), "nil": c, "(a :: -1)": {Kind: api.ConsExpr, Sub: sub(a, b)},
		"(case a of nil -> -1 | x :: y -> nil)": {Kind: api.CaseExpr, Name: "x", More: "y", Sub: sub(a, b, c)}, "(chance 1 of 4)": {Kind: api.ChanceExpr, Int: 1, Den: 4}, "(conflict a || -1 || nil)": {Kind: api.SumExpr, Sub: sub(a, b, c)},
	}
}

func decl(id int, name string, body ex) api.Decl {
	return api.Decl{Id: id, Kind: api.LetDecl, Names: []string{name}, Body: body}
}

func TestTexts(t *testing.T) {
	for want, e := range all() {
		s, err := syntax.Expr(e)
		if s != want || err != api.OK || syntax.CheckExpr(e) != api.OK {
			t.Error("P21.1", want, s, err)
		}
		l, _, _ := lexer.Scan(s)
		printed, _ := lexer.Print(l)
		again, _, _ := lexer.Scan(printed)
		if len(l) == 0 || len(l) != len(again) {
			t.Error("P21.4", s)
		}
		n := 1
		for _, x := range e.Sub {
			n += syntax.Nodes(x)
			if syntax.CheckExpr(x) != api.OK {
				t.Error("P21.2", s)
			}
		}
		if syntax.Nodes(e) != n {
			t.Error("P21.2", s)
		}
		wrapped, _ := syntax.Expr(fun("a", e))
		if wrapped != "(fun a -> "+s+")" || slices.Contains(syntax.Free(fun("a", e)), "a") {
			t.Error("P21.5", s)
		}
	}
	f := api.Source{Uses: []string{"a/list"}, Decls: []api.Decl{{Id: 7, Kind: api.LetDecl, Public: true, Names: []string{"f"}, Body: fun("x", op("+", ref("x"), num(1)))}}}
	if s, e := syntax.Text(f); e != api.OK || s != "use a/list ;\npub let f @7 = (fun x -> (x + 1)) ;\n" {
		t.Error("P21.1", s, e)
	}
	f = api.Source{Decls: []api.Decl{{Id: 1, Kind: api.TestDecl, Doubt: true, Public: true, Names: []string{"f", "", "g"}, Body: num(1)}, {Kind: api.FlakyDecl, Names: []string{"h"}, Body: num(2)}}}
	if s, e := syntax.Text(f); e != api.OK || s != "conflict pub test f || nil || g @1 = 1 ;\nflaky h = 2 ;\n" {
		t.Error("P21.1", s, e)
	}
	if s, e := syntax.Text(api.Source{}); s != "" || e != api.OK {
		t.Error("P21.1", e)
	}
}

func TestFree(t *testing.T) {
	for k, x := range []struct {
		e ex
		l []string
	}{
		{let("x", ref("x"), ex{Kind: api.CallExpr, Sub: sub(ref("y"), ref("x"))}), []string{"x", "y"}}, {fun("x", ref("x")), nil}, {let("x", num(1), ref("x")), nil},
		{ex{Kind: api.CaseExpr, Name: "x", More: "y", Sub: sub(ref("x"), ref("y"), op("+", ref("x"), ref("y")))}, []string{"x", "y"}}, {ex{Kind: api.CaseExpr, Name: "x", More: "y", Sub: sub(num(1), num(1), op("+", ref("x"), ref("z")))}, []string{"z"}},
		{op("+", fun("x", ref("x")), ref("x")), []string{"x"}}, {ref("if"), nil}, {op("+", ref("b"), op("+", ref("a"), ref("b"))), []string{"a", "b"}},
	} {
		if l := syntax.Free(x.e); !slices.Equal(l, x.l) {
			t.Error("P21.1: Free", k, l)
		}
	}
}

func deep(n int) ex {
	e := num(1)
	for range n - 1 {
		e = fun("x", e)
	}
	return e
}

func wide(n int) ex {
	if n < 3 {
		return num(1)
	}
	k := (n - 1) / 2
	if k%2 == 0 {
		k--
	}
	return op("+", wide(k), wide(n-1-k))
}

func TestCheckExpr(t *testing.T) {
	if syntax.Nodes(wide(399)) != 399 {
		t.Fatal("P21.1: Nodes", syntax.Nodes(wide(399)))
	}
	long := strings.Repeat("a", 25)
	for k, x := range []struct {
		e   ex
		err api.Errno
	}{
		{deep(40), api.OK}, {deep(41), api.ErrLimit}, {wide(399), api.OK}, {fun("x", wide(399)), api.OK}, {wide(401), api.ErrLimit}, {op("?", ex{Kind: 99}, deep(40)), api.ErrLimit},
		{ex{}, api.ErrKind}, {ex{Kind: 16}, api.ErrKind}, {ex{Kind: -1, Name: "x"}, api.ErrKind}, {ex{Kind: api.IntExpr, Name: "x"}, api.ErrArgument}, {ex{Kind: api.IntExpr, Den: 1}, api.ErrArgument}, {ex{Kind: api.NilExpr, Int: 1}, api.ErrArgument},
		{ex{Kind: api.VarExpr, Name: "x", More: "y"}, api.ErrArgument}, {ex{Kind: api.FunExpr, Name: "x"}, api.ErrArgument}, {ex{Kind: api.IfExpr, Sub: sub(num(1), num(2))}, api.ErrArgument}, {ex{Kind: api.VarExpr, Name: "x", Int: 1}, api.ErrArgument},
		{ref(""), api.ErrName}, {ref("nil"), api.ErrName}, {ref("use"), api.ErrName}, {ref(long), api.ErrName}, {ref("A"), api.ErrName}, {ref("deps"), api.OK}, {ex{Kind: api.DotExpr, Name: "m", More: "of"}, api.ErrName}, {ex{Kind: api.DotExpr, Name: "in", More: ""}, api.ErrName},
		{ex{Kind: api.RefExpr, Int: 1}, api.OK}, {ex{Kind: api.RefExpr, Name: "a/b", Int: 999999}, api.OK}, {ex{Kind: api.RefExpr, Name: "if", Int: 1}, api.OK}, {ex{Kind: api.RefExpr, Name: "a/", Int: 0}, api.ErrName}, {ex{Kind: api.RefExpr, Int: 0}, api.ErrRange}, {ex{Kind: api.RefExpr, Int: 1000000}, api.ErrRange},
		{op("::", num(1), num(2)), api.ErrName}, {op("", num(1), num(2)), api.ErrName}, {op("+-", num(1), num(2)), api.ErrName}, {ex{Kind: api.CaseExpr, Name: "x", More: "x", Sub: sub(num(1), num(2), num(3))}, api.ErrExists}, {ex{Kind: api.CaseExpr, Name: "x", Sub: sub(num(1), num(2), num(3))}, api.ErrName},
		{num(1000000000), api.ErrRange}, {num(-1 << 63), api.ErrRange}, {ex{Kind: api.BoolExpr, Int: 2}, api.ErrRange}, {ex{Kind: api.ChanceExpr, Int: 0, Den: 0}, api.ErrRange}, {ex{Kind: api.ChanceExpr, Int: 2, Den: 1}, api.ErrRange}, {ex{Kind: api.ChanceExpr, Int: 1, Den: 1000000}, api.ErrRange}, {ex{Kind: api.ChanceExpr, Int: -1, Den: 1}, api.ErrRange}, {ex{Kind: api.ChanceExpr, Int: 999999, Den: 999999}, api.OK},
		{op("+", ref("if"), ex{}), api.ErrName}, {op("+", op("+", num(1), ex{}), ref("if")), api.ErrKind}, {ex{Kind: api.CallExpr, Name: "x", Sub: sub(ex{}, ex{})}, api.ErrArgument},
	} {
		if e := syntax.CheckExpr(x.e); e != x.err {
			t.Error("P21.1: CheckExpr", k, e, x.err)
		}
		if s, e := syntax.Expr(x.e); x.err != api.OK && (s != "" || e != x.err) {
			t.Error("P21.1: Expr", k, e)
		}
	}
	r := ex{Kind: api.RefExpr, Int: 1}
	if s, e := syntax.Expr(fun("x", r)); s != "" || e != api.ErrKind {
		t.Error("P21.1: Expr", e)
	}
	if n := syntax.Nodes(ex{Kind: -5, Sub: make([]ex, 500)}); n != 501 {
		t.Error("P21.1: Nodes", n)
	}
}

func TestCheckSource(t *testing.T) {
	var uses []string
	for i := range 21 {
		uses = append(uses, fmt.Sprintf("m%02d", i))
	}
	var decls []api.Decl
	for i := range 101 {
		decls = append(decls, decl(i+1, fmt.Sprint("f", i), num(1)))
	}
	names := func(l ...string) []api.Decl { return []api.Decl{{Kind: 1, Names: l, Body: num(1)}} }
	for k, x := range []struct {
		f api.Source
		e api.Errno
	}{
		{api.Source{Uses: uses}, api.ErrLimit}, {api.Source{Uses: uses[:20]}, api.OK}, {api.Source{Uses: []string{"b", "a/"}}, api.ErrName}, {api.Source{Uses: []string{"b", "a"}}, api.ErrOrder}, {api.Source{Uses: []string{"b", "b"}, Decls: decls}, api.ErrOrder},
		{api.Source{Decls: decls}, api.ErrLimit}, {api.Source{Decls: decls[:100]}, api.OK}, {api.Source{Decls: []api.Decl{decl(-1, "", ex{})}}, api.ErrRange}, {api.Source{Decls: []api.Decl{decl(1000000, "a", ex{})}}, api.ErrRange},
		{api.Source{Decls: []api.Decl{{Kind: 4}}}, api.ErrKind}, {api.Source{Decls: []api.Decl{{Kind: 0, Names: []string{"a"}}}}, api.ErrKind}, {api.Source{Decls: names()}, api.ErrArgument}, {api.Source{Decls: names("if", "")}, api.ErrArgument}, {api.Source{Decls: names("")}, api.ErrName}, {api.Source{Decls: names("if")}, api.ErrName},
		{api.Source{Decls: names("", "", "")}, api.OK}, {api.Source{Decls: names("a", "a", "if")}, api.ErrName}, {api.Source{Decls: []api.Decl{decl(1, "a", ex{})}}, api.ErrKind}, {api.Source{Decls: []api.Decl{decl(1, "a", deep(41))}}, api.ErrLimit}, {api.Source{Decls: []api.Decl{decl(1, "a", ex{Kind: api.RefExpr, Int: 1})}}, api.ErrKind},
		{api.Source{Decls: []api.Decl{decl(2, "a", num(1)), decl(1, "a", num(1))}}, api.ErrOrder}, {api.Source{Decls: []api.Decl{decl(0, "a", num(1)), decl(1, "b", num(1))}}, api.ErrOrder}, {api.Source{Decls: []api.Decl{decl(1, "a", num(1)), decl(0, "b", num(1)), decl(0, "c", num(1))}}, api.OK},
		{api.Source{Decls: []api.Decl{decl(1, "a", num(1)), decl(2, "a", num(1)), decl(1, "c", num(1))}}, api.ErrExists}, {api.Source{Decls: append(names("a", "a", "b"), names("a")...)}, api.OK}, {api.Source{Decls: []api.Decl{decl(2, "a", num(1)), decl(2, "b", num(1))}}, api.ErrOrder},
	} {
		if e := syntax.CheckSource(x.f); e != x.e {
			t.Error("P21.1: CheckSource", k, e, x.e)
		}
		if s, e := syntax.Text(x.f); e != x.e || e != api.OK && s != "" {
			t.Error("P21.1: Text", k, e)
		}
	}
	var big []api.Decl
	for i := range 100 {
		big = append(big, decl(i+1, fmt.Sprint("f", i), wide(399)))
	}
	if s, e := syntax.Text(api.Source{Decls: big}); s != "" || e != api.ErrLimit {
		t.Error("P21.1: Text", len(s), e)
	}
}

func TestUnambiguity(t *testing.T) {
	// All expressions that are composed of these in one step, and sources with them.
	leaves := []ex{num(1), num(-1), ref("a"), ref("b"), {Kind: api.NilExpr}, {Kind: api.BoolExpr}, {Kind: api.DotExpr, Name: "a", More: "b"}, {Kind: api.ChanceExpr, Int: 1, Den: 2}}
	list := slices.Clone(leaves)
	for _, x := range leaves {
		list = append(list, fun("a", x), fun("b", x))
		for _, y := range leaves {
			for _, s := range []string{"+", "-", "*", "=", "<"} {
				list = append(list, op(s, x, y))
			}
			list = append(list, let("a", x, y), ex{Kind: api.CallExpr, Sub: sub(x, y)}, ex{Kind: api.ConsExpr, Sub: sub(x, y)})
			for _, z := range leaves {
				list = append(list, ex{Kind: api.IfExpr, Sub: sub(x, y, z)}, ex{Kind: api.SumExpr, Sub: sub(x, y, z)}, ex{Kind: api.CaseExpr, Name: "a", More: "b", Sub: sub(x, y, z)}, ex{Kind: api.CaseExpr, Name: "b", More: "a", Sub: sub(x, y, z)})
			}
		}
	}
	met := map[string]bool{}
	for _, e := range list {
		s, err := syntax.Expr(e)
		if err != api.OK || met[s] {
			t.Fatal("P21.3", s, err)
		}
		met[s] = true
	}
	for _, d := range []api.Decl{{Kind: 1, Names: []string{"a"}}, {Kind: 2, Names: []string{"a"}}, {Kind: 3, Names: []string{"a"}}, {Kind: 1, Names: []string{"b"}}, {Kind: 1, Names: []string{"a"}, Public: true}, {Kind: 1, Names: []string{"a"}, Doubt: true}, {Kind: 1, Names: []string{"a"}, Id: 1}, {Kind: 1, Names: []string{"a", "", ""}}, {Kind: 1, Names: []string{"", "a", ""}}} {
		for _, uses := range [][]string{nil, {"a"}, {"a/b"}, {"a", "b"}} {
			d.Body = num(1)
			s, err := syntax.Text(api.Source{Uses: uses, Decls: []api.Decl{d}})
			if err != api.OK || met[s] {
				t.Error("P21.3", s, err)
			}
			met[s] = true
		}
	}
}
