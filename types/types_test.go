package types_test

import (
	"fmt"
	"math/rand"
	"slices"
	"testing"

	"cordwood/api"
	"cordwood/types"
)

type typ = api.Type

func same(a, b any) bool { return fmt.Sprint(a) == fmt.Sprint(b) }

var (
	integer = typ{Kind: api.IntType}
	boolean = typ{Kind: api.BoolType}
)

func v(n int) typ      { return typ{Kind: api.VarType, Var: n} }
func list(t typ) typ   { return typ{Kind: api.ListType, Sub: []typ{t}} }
func fun(a, b typ) typ { return typ{Kind: api.FunType, Sub: []typ{a, b}} }

func chain(n int) typ {
	t := integer
	for range n - 1 {
		t = list(t)
	}
	return t
}

func random(r *rand.Rand, depth int) typ {
	k := r.Intn(6)
	if depth == 0 {
		k = r.Intn(4)
	}
	switch k {
	case 0:
		return integer
	case 1:
		return boolean
	case 2, 3:
		return v(r.Intn(4))
	case 4:
		return list(random(r, depth-1))
	}
	return fun(random(r, depth-1), random(r, depth-1))
}

func parse(t *testing.T, s string) api.Scheme {
	t.Helper()
	x, e := types.Parse(s)
	if e != api.OK {
		t.Fatal("P23.1: Parse", s, e)
	}
	return x
}

func TestExample(t *testing.T) {
	l, e := types.Unify(fun(v(0), list(v(0))), fun(integer, v(1)))
	if e != api.OK || !same(l, []api.Assign{{Var: 0, Type: integer}, {Var: 1, Type: list(integer)}}) {
		t.Error("P23.1", l, e)
	}
	id := parse(t, "(a -> a)")
	if !types.More(id, parse(t, "(int -> int)")) || !types.More(id, parse(t, "((list a) -> (list a))")) || types.More(id, parse(t, "(a -> b)")) || !types.More(parse(t, "(a -> b)"), id) {
		t.Error("P23.1: More")
	}
	if s, e := types.Print(api.Scheme{Vars: 1, Type: fun(list(v(0)), integer)}); s != "((list a) -> int)" || e != api.OK {
		t.Error("P23.1: Print", s, e)
	}
}

func TestUnify(t *testing.T) {
	r := rand.New(rand.NewSource(1))
	found := 0
	for range 2000 {
		a, b := random(r, 3), random(r, 3)
		var assign []api.Assign
		for i := range 4 {
			assign = append(assign, api.Assign{Var: i, Type: random(r, 1)})
		}
		l, e := types.Unify(a, b)
		m, f := types.Unify(b, a)
		if e != f || !same(l, m) {
			t.Fatal("P23.2: order", a, b)
		}
		x, _ := types.Apply(assign, a)
		y, _ := types.Apply(assign, b)
		if same(x, y) && e != api.OK {
			t.Error("P23.2: there is a unifier", a, b)
		}
		if e != api.OK {
			continue
		}
		found++
		p, _ := types.Apply(l, a)
		q, _ := types.Apply(l, b)
		if !same(p, q) {
			t.Error("P23.2: unifies")
		}
		for _, s := range l {
			if again, _ := types.Apply(l, s.Type); !same(again, s.Type) || s.Type.Kind == api.VarType && s.Type.Var >= s.Var {
				t.Error("P23.2: idempotent")
			}
			if same(x, y) {
				u, _ := types.Apply(assign, s.Type)
				w, _ := types.Apply(assign, v(s.Var))
				if !same(u, w) {
					t.Error("P23.2: most general")
				}
			}
		}
		schemes(t, r, p, a)
	}
	if found < 100 {
		t.Error("P23.2: too few", found)
	}
}

func schemes(t *testing.T, r *rand.Rand, p, a typ) {
	t.Helper()
	s, e := types.Close(a, nil)
	if e != api.OK || !types.Instance(s, p) || !types.Instance(s, a) || !types.More(s, s) {
		t.Error("P23.3", e)
	}
	o, next, e := types.Open(s, 50)
	if again, _ := types.Close(o, nil); e != api.OK || next != 50+s.Vars || !same(again, s) || !types.Instance(s, o) {
		t.Error("P23.3: Open", e)
	}
	if text, e := types.Print(s); e != api.OK || !same(parse(t, text), s) {
		t.Error("P23.4", text, e)
	}
	keep := []int{r.Intn(4)}
	k, e := types.Close(a, keep)
	if o, _, f := types.Open(k, 100); e != api.OK || f != api.OK || !types.Instance(k, a) || !types.Instance(k, o) || !types.More(s, k) {
		t.Error("P23.1: Close", e)
	}
	if slices.Contains(types.Vars(a), keep[0]) {
		if _, e := types.Print(k); e != api.ErrRange {
			t.Error("P23.1: Print", e)
		}
		if types.More(k, s) {
			t.Error("P23.1: a free variable stands for itself only")
		}
	}
}

func TestLimits(t *testing.T) {
	a, b := v(0), v(1)
	for i := range 8 {
		a, b = fun(fun(v(2*i+2), v(2*i+3)), a), fun(fun(fun(v(2*i+4), v(2*i+4)), fun(v(2*i+4), v(2*i+4))), b)
	}
	if l, e := types.Unify(a, b); e != api.ErrLimit || len(l) != 0 {
		t.Error("P23.1: Unify", e)
	}
	cyc := fun(v(0), fun(v(1), v(1)))
	if l, e := types.Unify(cyc, fun(list(v(1)), fun(v(0), v(0)))); e != api.ErrType || len(l) != 0 {
		t.Error("P23.1: Unify", e)
	}
	if l, e := types.Unify(v(0), v(0)); e != api.OK || len(l) != 0 {
		t.Error("P23.1: Unify", e)
	}
	if x, e := types.Apply([]api.Assign{{Var: 0, Type: chain(100)}}, fun(v(0), v(0))); e != api.ErrLimit || !same(x, typ{}) {
		t.Error("P23.1: Apply", e)
	}
	if _, e := types.Apply([]api.Assign{{Var: 0, Type: chain(99)}}, fun(v(0), list(v(0)))); e != api.OK {
		t.Error("P23.1: Apply", e)
	}
	if x, e := types.Apply([]api.Assign{{Var: 0, Type: v(1)}, {Var: 1, Type: integer}}, fun(v(0), v(1))); e != api.OK || !same(x, fun(v(1), integer)) {
		t.Error("P23.1: Apply replaces once", x, e)
	}
	if _, e := types.Close(fun(v(999999), v(0)), []int{999999}); e != api.ErrRange {
		t.Error("P23.1: Close", e)
	}
	if s, e := types.Close(fun(v(999999), v(0)), []int{999999, 0}); e != api.OK || s.Vars != 0 {
		t.Error("P23.1: Close", e)
	}
	for _, next := range []int{-1, 999800} {
		if x, n, e := types.Open(api.Scheme{Type: integer}, next); e != api.ErrRange || n != 0 || !same(x, typ{}) {
			t.Error("P23.1: Open", e)
		}
	}
	if _, n, e := types.Open(api.Scheme{Vars: 1, Type: v(0)}, 999799); e != api.OK || n != 999800 {
		t.Error("P23.1: Open", e)
	}
}

func TestErrors(t *testing.T) {
	for k, x := range []struct {
		t typ
		e api.Errno
	}{
		{typ{}, api.ErrKind}, {typ{Kind: 6, Var: -1}, api.ErrKind}, {typ{Kind: api.IntType, Var: 1}, api.ErrArgument}, {typ{Kind: api.BoolType, Sub: []typ{integer}}, api.ErrArgument}, {typ{Kind: api.ListType}, api.ErrArgument}, {typ{Kind: api.FunType, Sub: []typ{integer}}, api.ErrArgument},
		{v(-1), api.ErrRange}, {v(1000000), api.ErrRange}, {v(999999), api.OK}, {chain(200), api.OK}, {chain(201), api.ErrLimit}, {fun(typ{}, chain(200)), api.ErrLimit}, {fun(list(v(-1)), typ{}), api.ErrRange}, {typ{Kind: api.VarType, Sub: []typ{{}}}, api.ErrArgument},
	} {
		if e := types.Check(x.t); e != x.e {
			t.Error("P23.1: Check", k, e)
		}
		if x.e == api.OK {
			continue
		}
		if _, e := types.Apply([]api.Assign{{Var: -1}}, x.t); e != x.e {
			t.Error("P23.1: Apply", k, e)
		}
		if _, e := types.Apply([]api.Assign{{Type: x.t}}, integer); e != x.e {
			t.Error("P23.1: Apply", k, e)
		}
		if l, e := types.Unify(integer, x.t); e != x.e || len(l) != 0 {
			t.Error("P23.1: Unify", k, e)
		}
		if _, e := types.Close(x.t, nil); e != x.e {
			t.Error("P23.1: Close", k, e)
		}
		if _, _, e := types.Open(api.Scheme{Vars: 5, Type: x.t}, -1); e != x.e {
			t.Error("P23.1: Open", k, e)
		}
		if s, e := types.Print(api.Scheme{Vars: 5, Type: x.t}); e != x.e || s != "" {
			t.Error("P23.1: Print", k, e)
		}
		if len(types.Vars(x.t)) != 0 || types.Instance(api.Scheme{Vars: 1, Type: v(0)}, x.t) || types.More(api.Scheme{Vars: 1, Type: v(0)}, api.Scheme{Type: x.t}) {
			t.Error("P23.1", k)
		}
	}
	for k, s := range []api.Scheme{{Vars: -1, Type: integer}, {Vars: 1, Type: integer}, {Vars: 2, Type: fun(v(1), v(0))}, {Vars: 2, Type: fun(v(0), v(2))}, {Vars: 1 << 62, Type: v(0)}} {
		if _, _, e := types.Open(s, 0); e != api.ErrArgument || types.Instance(s, integer) || types.More(s, s) {
			t.Error("P23.1: schemes", k, e)
		}
		if _, e := types.Print(s); e != api.ErrArgument {
			t.Error("P23.1: schemes", k, e)
		}
	}
	if _, e := types.Apply([]api.Assign{{Var: 1, Type: integer}, {Var: 1}}, integer); e != api.ErrOrder {
		t.Error("P23.1: Apply", e)
	}
	for _, s := range []string{"", "b", "Int", "(list  a)", "(a->b)", "(a -> b) ", "(b -> a)", "(list a", "int)", "(a -> c)", "A"} {
		if x, e := types.Parse(s); e != api.ErrSyntax || !same(x, api.Scheme{}) {
			t.Error("P23.4", s, e)
		}
	}
	big := v(0)
	for i := range 26 {
		big = fun(big, v(i+1))
	}
	if _, e := types.Print(api.Scheme{Vars: 27, Type: big}); e != api.ErrRange {
		t.Error("P23.1: Print", e)
	}
	if s, e := types.Print(api.Scheme{Vars: 26, Type: big.Sub[0]}); e != api.OK || !same(parse(t, s).Type, big.Sub[0]) {
		t.Error("P23.4", s, e)
	}
}
