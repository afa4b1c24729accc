package compile_test

import (
	"fmt"
	"strings"
	"testing"

	"cordwood/api"
	"cordwood/bind"
	"cordwood/compile"
	"cordwood/parser"
	"cordwood/syntax"
)

type ins = api.Instr

func same(a, b any) bool { return fmt.Sprint(a) == fmt.Sprint(b) }

func module(t *testing.T, s string) api.Module {
	t.Helper()
	f, _, e := parser.Parse(s)
	if e != api.OK {
		t.Fatal(s, e)
	}
	m, e := bind.Bind("me", f, []api.Interface{{Label: "a/m", Sigs: []api.Sig{{Id: 3, Name: "f"}}}})
	if e != api.OK {
		t.Fatal(s, e)
	}
	return m
}

func code(t *testing.T, s string) api.Code {
	t.Helper()
	c, e := compile.Module(module(t, s))
	if e != api.OK || compile.Check(c) != api.OK {
		t.Fatal("P28.3", s, e)
	}
	return c
}

func show(l []ins) string {
	var b strings.Builder
	for _, x := range l {
		fmt.Fprint(&b, []string{"", "int", "bool", "local", "global", "clos", "call", "ret", "jump", "false", "op", "nil", "cons", "case", "bind", "drop", "chance"}[x.Op])
		if x.A != 0 || x.Op <= api.ClosInstr || x.Op == api.ChanceInstr {
			fmt.Fprint(&b, " ", x.A)
		}
		if x.B != 0 {
			fmt.Fprint(&b, " ", x.B)
		}
		b.WriteString(x.Name + ";")
	}
	return b.String()
}

func TestInstructions(t *testing.T) {
	for body, want := range map[string]string{
		"-7": "int -7;ret;", "true": "bool 1;ret;", "nil": "nil;ret;", "(chance 1 of 4)": "chance 1 4;ret;", "f": "global 1me;ret;", "m.f": "global 3a/m;ret;", "(1 2)": "int 1;int 2;call;ret;", "(1 < 2)": "int 1;int 2;op<;ret;", "(1 :: nil)": "int 1;nil;cons;ret;",
		"(let x = 1 in (let x = 2 in x))": "int 1;bind;int 2;bind;local 1;drop 1;drop 1;ret;", "(if true then 1 else 2)": "bool 1;false 4;int 1;jump 5;int 2;ret;", "(case nil of nil -> 1 | x :: y -> (x + y))": "nil;case 7;local 0;local 1;op+;drop 2;jump 8;int 1;ret;",
	} {
		c := code(t, "use a/m ; let f @1 = "+body+" ;")
		if s := show(c.Blocks[0].Instrs); s != want || len(c.Blocks) != 1 || !same(c.Decls, []api.CodeDecl{{Id: 1, Kind: 1}}) || c.Label != "me" {
			t.Error("P28.1", body, s)
		}
	}
	c := code(t, "let a @1 = (fun x -> (x + 1)) ; test b @2 = (let y = 1 in (((fun p -> (fun q -> y)) (fun r -> r)) (case nil of nil -> (fun s -> 1) | h :: k -> (fun u -> u)))) ;")
	var all []string
	for _, b := range c.Blocks {
		all = append(all, fmt.Sprint(b.Captured, b.Param, " ", show(b.Instrs)))
	}
	want := []string{"0 false clos 1;ret;", "0 true local 0;int 1;op+;ret;", "0 false int 1;bind;clos 3;clos 5;call;nil;case 10;clos 6;drop 2;jump 11;clos 7;call;drop 1;ret;", "1 true clos 4;ret;", "2 true local 0;ret;", "1 true local 1;ret;", "3 true local 3;ret;", "1 true int 1;ret;"}
	if !same(all, want) || !same(c.Decls, []api.CodeDecl{{Id: 1, Kind: 1}, {Id: 2, Kind: 2, Block: 2}}) {
		t.Error("P28.1", strings.Join(all, "\n"))
	}
}

func TestSize(t *testing.T) {
	for _, s := range []string{"let a @1 = (fun x -> (x + 1)) ; let b @2 = a ;", "let a @1 = (let y = (if true then 1 else 2) in (case nil of nil -> (fun s -> 1) | h :: k -> (fun u -> u))) ;", ""} {
		m := module(t, s)
		want := len(m.Decls)
		var count func(e api.Expr)
		count = func(e api.Expr) {
			want += map[int]int{api.LetExpr: 1, api.IfExpr: 1, api.FunExpr: 1, api.CaseExpr: 2}[e.Kind]
			for _, x := range e.Sub {
				count(x)
			}
		}
		for _, d := range m.Decls {
			want += syntax.Nodes(d.Body)
			count(d.Body)
		}
		n := 0
		c := code(t, s)
		for _, b := range c.Blocks {
			n += len(b.Instrs)
		}
		if n != want {
			t.Error("P28.5", s, n, want)
		}
		if len(m.Decls) > 0 {
			r, _ := bind.Rename(m, 1, "other")
			if d, _ := compile.Module(r); !same(c, d) {
				t.Error("P28.4")
			}
		}
		e, err := compile.Encode(c)
		if back, f := compile.Decode(e); err != api.OK || f != api.OK || !same(back, c) {
			t.Error("P28.2", err, f)
		}
		for k := range len(e) {
			for _, bad := range []string{e[:k], e[:k] + string([]byte{e[k] ^ 1}) + e[k+1:]} {
				if x, f := compile.Decode(bad); f == api.OK {
					if again, _ := compile.Encode(x); again != bad {
						t.Error("P28.2", k)
					}
				} else if f != api.ErrDecode || !same(x, api.Code{}) {
					t.Error("P28.2", k, f)
				}
			}
		}
		if _, f := compile.Decode(e + "\x00"); f != api.ErrDecode {
			t.Error("P28.2", f)
		}
	}
	if s, e := compile.Encode(code(t, "let a @2 = -3 ;")); e != api.OK || s != "\x02me\x01\x00\x00\x02\x01\x07\x00\x00\x07\x00\x00\x00\x01\x02\x01\x00" {
		t.Errorf("P28.1: %q", s)
	}
}

func TestRefusals(t *testing.T) {
	decl := func(id int, name string, body api.Expr) api.Decl {
		return api.Decl{Id: id, Kind: 1, Names: []string{name}, Body: body}
	}
	one := api.Expr{Kind: api.IntExpr, Int: 1}
	three, doubt := decl(2, "a", one), decl(2, "b", one)
	three.Names, doubt.Doubt = []string{"a", "b", "c"}, true
	lost := decl(1, "a", api.Expr{Kind: api.RefExpr, Int: 9})
	for k, x := range []struct {
		l []api.Decl
		e api.Errno
	}{
		{[]api.Decl{decl(0, "a", one)}, api.ErrRange}, {[]api.Decl{lost, three}, api.ErrConflict}, {[]api.Decl{lost, doubt}, api.ErrConflict}, {[]api.Decl{lost, decl(2, "a", one)}, api.ErrConflict}, {[]api.Decl{lost, decl(2, "b", api.Expr{Kind: api.FunExpr, Name: "x", Sub: []api.Expr{{Kind: api.SumExpr, Sub: []api.Expr{one, one, one}}}})}, api.ErrConflict},
		{[]api.Decl{lost}, api.ErrScope}, {[]api.Decl{decl(1, "a", api.Expr{Kind: api.RefExpr, Name: "z", Int: 1})}, api.ErrScope}, {[]api.Decl{decl(1, "a", api.Expr{Kind: api.RefExpr, Name: "a/m", Int: 777})}, api.OK},
	} {
		if c, e := compile.Module(api.Module{Label: "me", Uses: []string{"a/m"}, Decls: x.l}); e != x.e || e != api.OK && !same(c, api.Code{}) {
			t.Error("P28.6", k, e)
		}
	}
}

func TestCheck(t *testing.T) {
	ret := ins{Op: api.RetInstr}
	blocks := func(l ...ins) api.Code {
		return api.Code{Label: "m", Blocks: []api.Block{{Instrs: append(l, ret)}, {Param: true, Captured: 1, Instrs: []ins{ret}}}}
	}
	decls := func(l ...api.CodeDecl) api.Code {
		c := blocks()
		c.Decls = l
		return c
	}
	for k, x := range []struct {
		c api.Code
		e api.Errno
	}{
		{api.Code{}, api.ErrName}, {api.Code{Label: "m", Blocks: []api.Block{{Captured: -1}}}, api.ErrRange}, {api.Code{Label: "m", Blocks: []api.Block{{Captured: 401}}}, api.ErrRange}, {api.Code{Label: "m", Blocks: []api.Block{{}}}, api.ErrArgument}, {api.Code{Label: "m", Blocks: []api.Block{{Instrs: []ins{{Op: 99}, {Op: api.NilInstr}}}}}, api.ErrArgument},
		{blocks(ins{}), api.ErrKind}, {blocks(ins{Op: 17, A: 1}), api.ErrKind}, {blocks(ins{Op: api.NilInstr, A: 1}), api.ErrArgument}, {blocks(ins{Op: api.IntInstr, B: 1}), api.ErrArgument}, {blocks(ins{Op: api.IntInstr, Name: "x"}), api.ErrArgument}, {blocks(ins{Op: api.OpInstr, Name: "+", A: 1}), api.ErrArgument}, {blocks(ins{Op: api.OpInstr, Name: "::"}), api.ErrName}, {blocks(ins{Op: api.OpInstr}), api.ErrName}, {blocks(ins{Op: api.GlobalInstr, A: 0}), api.ErrName},
		{blocks(ins{Op: api.GlobalInstr, Name: "a"}), api.ErrRange}, {blocks(ins{Op: api.IntInstr, A: 1000000000}), api.ErrRange}, {blocks(ins{Op: api.BoolInstr, A: 2}), api.ErrRange}, {blocks(ins{Op: api.LocalInstr, A: 801}), api.ErrRange}, {blocks(ins{Op: api.LocalInstr, A: 800}), api.OK}, {blocks(ins{Op: api.ClosInstr, A: 0}), api.ErrRange}, {blocks(ins{Op: api.ClosInstr, A: 1}), api.OK}, {blocks(ins{Op: api.ClosInstr, A: 2}), api.ErrRange}, {blocks(ins{Op: api.ClosInstr, A: -1}), api.ErrRange},
		{blocks(ins{Op: api.JumpInstr, A: 2}), api.ErrRange}, {blocks(ins{Op: api.JumpInstr, A: 1}), api.OK}, {blocks(ins{Op: api.CaseInstr, A: -1}), api.ErrRange}, {blocks(ins{Op: api.DropInstr}), api.ErrRange}, {blocks(ins{Op: api.DropInstr, A: 3}), api.ErrRange}, {blocks(ins{Op: api.ChanceInstr, A: 2, B: 1}), api.ErrRange}, {blocks(ins{Op: api.ChanceInstr}), api.ErrRange}, {blocks(ins{Op: api.ChanceInstr, B: 1000000}), api.ErrRange},
		{decls(api.CodeDecl{Id: 0, Kind: 9}), api.ErrRange}, {decls(api.CodeDecl{Id: 1, Kind: 9, Block: 7}), api.ErrKind}, {decls(api.CodeDecl{Id: 1, Kind: 1, Block: 1}), api.ErrRange}, {decls(api.CodeDecl{Id: 1, Kind: 1, Block: 2}), api.ErrRange}, {decls(api.CodeDecl{Id: 1, Kind: 1, Block: -1}), api.ErrRange}, {decls(api.CodeDecl{Id: 1, Kind: 3}, api.CodeDecl{Id: 1, Kind: 9}), api.ErrOrder}, {decls(api.CodeDecl{Id: 1, Kind: 3}, api.CodeDecl{Id: 2, Kind: 2}), api.OK},
	} {
		if e := compile.Check(x.c); e != x.e {
			t.Error("P28.1: Check", k, e, x.e)
		}
		if s, e := compile.Encode(x.c); e != x.e || (s == "") != (e != api.OK) {
			t.Error("P28.1: Encode", k, e)
		}
	}
}
