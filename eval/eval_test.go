package eval_test

import (
	"fmt"
	"strings"
	"testing"

	"cordwood/api"
	"cordwood/bind"
	"cordwood/eval"
	"cordwood/lexer"
	"cordwood/parser"
)

func same(a, b any) bool { return fmt.Sprint(a) == fmt.Sprint(b) }

func expr(t *testing.T, s string) api.Expr {
	t.Helper()
	l, _, _ := lexer.Scan(s)
	e, n, err := parser.Expr(l)
	if err != api.OK || n != len(l) {
		t.Fatal(s, err)
	}
	return e
}

func modules(t *testing.T, texts ...string) []api.Module {
	t.Helper()
	var l []api.Module
	var known []api.Interface
	for i, s := range texts {
		f, _, e := parser.Parse(s)
		label := fmt.Sprint("m", i)
		m, g := bind.Bind(label, f, known)
		if e != api.OK || g != api.OK {
			t.Fatal(s, e, g)
		}
		x := api.Interface{Label: label}
		for _, d := range m.Decls {
			x.Sigs = append(x.Sigs, api.Sig{Id: d.Id, Name: d.Names[0]})
		}
		l, known = append(l, m), append(known, x)
	}
	return l
}

func TestSteps(t *testing.T) {
	for s, want := range map[string]struct {
		text  string
		steps int
		e     api.Errno
	}{
		"(1 + 2)": {"3", 4, api.OK}, "1": {"1", 2, api.OK}, "true": {"true", 2, api.OK}, "nil": {"nil", 2, api.OK}, "(1 :: (2 :: nil))": {"(1 :: (2 :: nil))", 6, api.OK}, "(2 - 5)": {"-3", 4, api.OK}, "(2 * 5)": {"10", 4, api.OK}, "(2 = 5)": {"false", 4, api.OK}, "(2 < 5)": {"true", 4, api.OK}, "(5 < 5)": {"false", 4, api.OK},
		"((fun x -> (x + 1)) 4)": {"5", 8, api.OK}, "(let x = 2 in (let x = 3 in x))": {"3", 8, api.OK}, "(if true then 1 else 2)": {"1", 5, api.OK}, "(if false then 1 else 2)": {"2", 4, api.OK}, "(case nil of nil -> 7 | x :: y -> x)": {"7", 4, api.OK}, "(case (1 :: (2 :: nil)) of nil -> nil | x :: y -> y)": {"(2 :: nil)", 10, api.OK},
		"x": {"", 1, api.ErrScope}, "m.x": {"", 1, api.ErrScope}, "(1 2)": {"", 3, api.ErrFault}, "(if 1 then 1 else 1)": {"", 2, api.ErrFault}, "(1 + true)": {"", 3, api.ErrFault}, "(1 = nil)": {"", 3, api.ErrFault}, "(1 :: 2)": {"", 3, api.ErrFault}, "(case 1 of nil -> 1 | x :: y -> 1)": {"", 2, api.ErrFault},
		"(999999999 + 1)": {"", 3, api.ErrOverflow}, "(-999999999 - 1)": {"", 3, api.ErrOverflow}, "(999999999 * 999999999)": {"", 3, api.ErrOverflow}, "(1 + (conflict 1 || 2 || 3))": {"", 1, api.ErrConflict}, "(let y = (fun x -> y) in (y 1))": {"", 6, api.ErrScope}, "(chance 4 of 4)": {"true", 2, api.OK}, "(chance 0 of 4)": {"false", 2, api.OK},
	} {
		v, n, e := eval.Eval(expr(t, s), nil, "?", 1000, 5)
		text := ""
		if e == api.OK {
			text, _ = eval.Print(v)
		}
		if text != want.text || n != want.steps || e != want.e || e != api.OK && !same(v, api.Value{}) {
			t.Error("P27.1", s, text, n, e)
		}
		for limit := range want.steps + 3 {
			w, k, f := eval.Eval(expr(t, s), nil, "?", limit, 77)
			if limit < want.steps && (k != limit || f != api.ErrSteps || !same(w, api.Value{})) {
				t.Error("P27.2", s, limit, k, f)
			}
			if limit >= want.steps && (k != n || f != e || !same(w, v)) {
				t.Error("P27.2, P27.4", s, limit, k, f)
			}
		}
	}
}

func TestFunctions(t *testing.T) {
	v, _, e := eval.Eval(expr(t, "(let a = 1 in (let b = nil in (let a = 2 in (fun p -> (a p)))))"), nil, "pack", 100, 0)
	want := api.Value{Kind: api.FunValue, Pack: "pack", Param: "p", Body: []api.Expr{expr(t, "(a p)")}, Env: []api.Bound{{Name: "a", Value: api.Value{Kind: 1, Int: 1}}, {Name: "b", Value: api.Value{Kind: 3}}, {Name: "a", Value: api.Value{Kind: 1, Int: 2}}}}
	if e != api.OK || !same(v, want) {
		t.Error("P27.1", v, e)
	}
	for _, x := range [][2]string{{"((fun x -> (x * x)) (2 + 3))", "(let x = (2 + 3) in (x * x))"}, {"(case (1 :: (2 :: nil)) of nil -> 0 | x :: y -> (x + (case y of nil -> 5 | a :: b -> a)))", "(1 + 2)"}} {
		a, _, e := eval.Eval(expr(t, x[0]), nil, "", 100, 0)
		b, _, f := eval.Eval(expr(t, x[1]), nil, "", 100, 0)
		if e != api.OK || f != api.OK || !eval.Same(a, b) {
			t.Error("P27.5", x)
		}
	}
}

func TestModules(t *testing.T) {
	l := modules(t, "pub let f @1 = (fun x -> (x + k)) ; let k @2 = 10 ; test good @3 = ((f 1) = 11) ; let loop @4 = loop ; flaky odd @5 = (chance 1 of 2) ; let g @6 = gone ; let gone @7 = 1 ; test int @8 = 1 ;", "use m0 ; test t @1 = ((m0.f 5) = 15) ; test bad @2 = false ; let f @9 = m0.loop ;")
	for k, x := range []struct {
		n api.Name
		v api.Verdict
	}{
		{api.Name{Pack: "m0", Id: 3}, api.Verdict{Pass: true, Steps: 14}}, {api.Name{Pack: "m1", Id: 1}, api.Verdict{Pass: true, Steps: 14}}, {api.Name{Pack: "m1", Id: 2}, api.Verdict{Steps: 2}}, {api.Name{Pack: "m0", Id: 1}, api.Verdict{Err: api.ErrKind}},
		{api.Name{Pack: "m0", Id: 8}, api.Verdict{Err: api.ErrFault, Steps: 2}}, {api.Name{Pack: "m0", Id: 99}, api.Verdict{Err: api.ErrNotFound}}, {api.Name{Pack: "z", Id: 1}, api.Verdict{Err: api.ErrNotFound}},
	} {
		x.v.Test = x.n
		if v := eval.Test(l, x.n, 1000, 0); v != x.v {
			t.Error("P27.1: Test", k, v)
		}
	}
	if v, n, e := eval.Decl(l, api.Name{Pack: "m1", Id: 9}, 100000, 0); e != api.ErrSteps || n != 100000 || !same(v, api.Value{}) {
		t.Error("P27.1: Decl", n, e)
	}
	renamed, _ := bind.Rename(l[0], 2, "other")
	if v := eval.Test([]api.Module{renamed, l[1]}, api.Name{Pack: "m1", Id: 1}, 1000, 0); !v.Pass || v.Steps != 14 {
		t.Error("P27.3", v)
	}
	if v, _, e := eval.Eval(api.Expr{Kind: api.RefExpr, Int: 2}, append(l, api.Module{Label: "m0"}), "m0", 9, 0); e != api.OK || v.Int != 10 {
		t.Error("P27.1: the first module with a label counts", e)
	}
	if _, n, e := eval.Eval(api.Expr{Kind: api.RefExpr, Int: 99}, l, "m0", 9, 0); e != api.ErrScope || n != 1 {
		t.Error("P27.1", n, e)
	}
	passes := 0
	for seed := range uint64(100) {
		s := seed*6364136223846793005 + 1442695040888963407
		v := eval.Test(l, api.Name{Pack: "m0", Id: 5}, 10, seed)
		if v.Pass != ((s>>33)%2 < 1) {
			t.Error("P27.1: chance", seed)
		}
		if v.Pass {
			passes++
		}
	}
	if passes == 0 || passes == 100 {
		t.Error("P27.1: chance", passes)
	}
}

func TestDeep(t *testing.T) {
	left := strings.Repeat("(", 36) + "(f x)" + strings.Repeat(" + 1)", 36)
	l := modules(t, "let f @1 = (fun x -> "+left+") ; let g @2 = (f 1) ;")
	if _, n, e := eval.Decl(l, api.Name{Pack: "m0", Id: 2}, 100000, 0); e != api.ErrSteps || n != 100000 {
		t.Error("P27.1: deep", n, e)
	}
	l = modules(t, "let up @1 = (fun n -> (fun l -> (if (n = 0) then l else ((up (n - 1)) (n :: l))))) ; let g @2 = ((up 4000) nil) ;")
	if v, _, e := eval.Decl(l, api.Name{Pack: "m0", Id: 2}, 100000, 0); e != api.OK || len(v.List) != 4000 || v.List[0].Int != 1 {
		t.Error("P27.1: a long list", e)
	}
}

func TestErrors(t *testing.T) {
	bad := []api.Module{{Label: "a"}, {Label: "B"}}
	one := api.Expr{Kind: api.IntExpr, Int: 1}
	for k, x := range []struct {
		e     api.Expr
		l     []api.Module
		steps int
		err   api.Errno
	}{{api.Expr{}, bad, -1, api.ErrKind}, {one, bad, -1, api.ErrName}, {one, nil, -1, api.ErrRange}, {one, nil, 100001, api.ErrRange}, {one, nil, 100000, api.OK}} {
		if v, n, e := eval.Eval(x.e, x.l, "", x.steps, 0); e != x.err || e != api.OK && (n != 0 || !same(v, api.Value{})) {
			t.Error("P27.1: Eval", k, e)
		}
	}
	for k, x := range []struct {
		l     []api.Module
		steps int
		err   api.Errno
	}{{bad, -1, api.ErrName}, {nil, -1, api.ErrRange}, {nil, 0, api.ErrNotFound}} {
		if v, n, e := eval.Decl(x.l, api.Name{}, x.steps, 0); e != x.err || n != 0 || !same(v, api.Value{}) {
			t.Error("P27.1: Decl", k, e)
		}
		if v := eval.Test(x.l, api.Name{}, x.steps, 0); v != (api.Verdict{Err: x.err}) {
			t.Error("P27.1: Test", k, v)
		}
	}
	l := modules(t, "let a @1 = 1 ;")
	if v := eval.Test(l, api.Name{Pack: "m0", Id: 1}, -1, 0); v.Err != api.ErrRange {
		t.Error("P27.1: Test", v)
	}
}

func TestValues(t *testing.T) {
	i := func(n int) api.Value { return api.Value{Kind: 1, Int: n} }
	list := func(l ...api.Value) api.Value { return api.Value{Kind: 3, List: l} }
	fun := api.Value{Kind: 4, Param: "x"}
	many := make([]api.Value, 199)
	for k := range many {
		many[k] = i(k)
	}
	for k, x := range []struct {
		v api.Value
		s string
		e api.Errno
	}{
		{i(-5), "-5", api.OK}, {api.Value{Kind: 2, Int: 1}, "true", api.OK}, {api.Value{Kind: 2}, "false", api.OK}, {list(), "nil", api.OK}, {list(i(1), list(i(2)), list()), "(1 :: ((2 :: nil) :: (nil :: nil)))", api.OK},
		{fun, "", api.ErrKind}, {api.Value{}, "", api.ErrKind}, {list(fun, i(1<<40)), "", api.ErrKind}, {list(i(1<<40), fun), "", api.ErrRange}, {api.Value{Kind: 2, Int: 2}, "", api.ErrRange}, {list(append(many, fun)...), "", api.ErrLimit}, {i(-1000000000), "", api.ErrRange},
	} {
		if s, e := eval.Print(x.v); s != x.s || e != x.e {
			t.Error("P27.1: Print", k, s, e)
		}
	}
	if s, e := eval.Print(list(many...)); e != api.OK || strings.Count(s, "::") != 199 {
		t.Error("P27.1: Print", e)
	}
	all := []api.Value{i(0), i(1), {Kind: 2}, {Kind: 2, Int: 1}, list(), list(i(1)), list(i(1), i(1)), list(list(i(1))), list(list())}
	for a := range all {
		for b := range all {
			s, _ := eval.Print(all[a])
			r, _ := eval.Print(all[b])
			if eval.Same(all[a], all[b]) != (a == b) || (s == r) != (a == b) {
				t.Error("P27.6", a, b)
			}
		}
	}
	for _, v := range []api.Value{fun, {}, {Kind: 5}, list(fun), list(list(api.Value{}))} {
		if eval.Same(v, v) {
			t.Error("P27.1: Same", v)
		}
	}
	if !eval.Same(i(1<<50), i(1<<50)) {
		t.Error("P27.1: Same")
	}
}
