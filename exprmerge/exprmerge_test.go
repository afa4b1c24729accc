package exprmerge_test

import (
	"fmt"
	"math/rand"
	"testing"

	"cordwood/api"
	"cordwood/exprmerge"
	"cordwood/lexer"
	"cordwood/parser"
	"cordwood/syntax"
)

type ex = api.Expr

func same(a, b any) bool { return fmt.Sprint(a) == fmt.Sprint(b) }

func parse(t *testing.T, s string) ex {
	t.Helper()
	l, _, _ := lexer.Scan(s)
	e, n, err := parser.Expr(l)
	if err != api.OK || n != len(l) {
		t.Fatal(s, err)
	}
	return e
}

func text(t *testing.T, e ex) string {
	t.Helper()
	s, err := syntax.Expr(e)
	if err != api.OK {
		t.Fatal(err)
	}
	return s
}

func merge(t *testing.T, base, left, right ex) ex {
	t.Helper()
	e, err := exprmerge.Merge(base, left, right)
	if err != api.OK || syntax.CheckExpr(e) != api.OK {
		t.Fatal("P32.1", err)
	}
	return e
}

func TestMerge(t *testing.T) {
	for k, x := range [][4]string{
		{"(a + b)", "(a + 1)", "(2 + b)", "(2 + 1)"}, {"(a + b)", "(a - b)", "(2 + b)", "(conflict (a - b) || (a + b) || (2 + b))"}, {"1", "2", "3", "(conflict 2 || 1 || 3)"}, {"1", "2", "2", "2"}, {"1", "1", "3", "3"}, {"1", "2", "1", "2"},
		{"(fun x -> x)", "(fun y -> y)", "(fun x -> 1)", "(conflict (fun y -> y) || (fun x -> x) || (fun x -> 1))"}, {"(fun x -> x)", "(fun x -> 2)", "(fun x -> 1)", "(fun x -> (conflict 2 || x || 1))"}, {"(chance 1 of 2)", "(chance 1 of 3)", "(chance 2 of 2)", "(conflict (chance 1 of 3) || (chance 1 of 2) || (chance 2 of 2))"},
		{"(conflict a || b || c)", "(conflict 1 || b || c)", "(conflict a || b || 2)", "(conflict (conflict 1 || b || c) || (conflict a || b || c) || (conflict a || b || 2))"}, {"nil", "1", "2", "(conflict 1 || nil || 2)"}, {"m.x", "m.y", "n.x", "(conflict m.y || m.x || n.x)"}, {"(if a then b else c)", "(if 1 then b else 3)", "(if a then 2 else 4)", "(if 1 then 2 else (conflict 3 || c || 4))"},
	} {
		if s := text(t, merge(t, parse(t, x[0]), parse(t, x[1]), parse(t, x[2]))); s != x[3] {
			t.Error("P32.1", k, s)
		}
	}
}

func random(r *rand.Rand, depth int) ex {
	k := r.Intn(5)
	if depth == 0 {
		k = r.Intn(2)
	}
	switch k {
	case 0, 1:
		return ex{Kind: api.IntExpr, Int: r.Intn(3)}
	case 2:
		return ex{Kind: api.FunExpr, Name: []string{"x", "y"}[r.Intn(2)], Sub: []ex{random(r, depth-1)}}
	}
	return ex{Kind: api.OpExpr, Name: []string{"+", "*"}[r.Intn(2)], Sub: []ex{random(r, depth-1), random(r, depth-1)}}
}

// change returns an expression in which some parts are others.
func change(r *rand.Rand, e ex) ex {
	if r.Intn(4) == 0 {
		return random(r, 1)
	}
	sub := make([]ex, len(e.Sub))
	for i := range sub {
		sub[i] = change(r, e.Sub[i])
	}
	e.Sub = sub
	return e
}

func opposite(e ex) ex {
	sub := make([]ex, len(e.Sub))
	for i := range sub {
		sub[i] = opposite(e.Sub[i])
	}
	if e.Kind == api.SumExpr {
		sub[0], sub[2] = sub[2], sub[0]
	}
	e.Sub = sub
	return e
}

func TestRandom(t *testing.T) {
	r := rand.New(rand.NewSource(1))
	clean := 0
	for range 2000 {
		base := random(r, 3)
		left, right := change(r, base), change(r, base)
		m := merge(t, base, left, right)
		if !same(merge(t, base, base, right), right) || !same(merge(t, base, left, base), left) || !same(merge(t, base, left, left), left) {
			t.Error("P32.2")
		}
		if !same(merge(t, base, right, left), opposite(m)) {
			t.Error("P32.3")
		}
		if exprmerge.Clean(m) != (exprmerge.Conflicts(m) == 0) {
			t.Error("P32.1: Clean")
		}
		if exprmerge.Clean(m) {
			clean++
			if !same(merge(t, left, m, left), m) || !same(merge(t, base, left, m), m) && !same(m, left) && exprmerge.Clean(merge(t, base, left, m)) {
				t.Error("P32.5", text(t, base), text(t, left), text(t, right))
			}
		}
		two := func(a, b ex) ex { return ex{Kind: api.ConsExpr, Sub: []ex{a, b}} }
		if !same(merge(t, two(base, left), two(left, right), two(right, base)), two(merge(t, base, left, right), merge(t, left, right, base))) && !same(two(left, right), two(right, base)) && !same(two(right, base), two(base, left)) && !same(two(left, right), two(base, left)) {
			t.Error("P32.4")
		}
		for side := range 3 {
			want, err := exprmerge.Side(m, side)
			x := m
			for exprmerge.Conflicts(x) > 0 {
				var e api.Errno
				x, e = exprmerge.Settle(x, r.Intn(exprmerge.Conflicts(x)), side)
				if e != api.OK {
					t.Fatal("P32.6", e)
				}
			}
			if err != api.OK || !same(x, want) || !exprmerge.Clean(want) {
				t.Error("P32.6", err)
			}
		}
	}
	if clean < 100 {
		t.Error("P32.5: too few", clean)
	}
}

func TestSettle(t *testing.T) {
	e := parse(t, "(conflict (conflict 1 || 2 || 3) || 4 || (conflict 5 || 6 || (conflict 7 || 8 || 9)))")
	if n := exprmerge.Conflicts(e); n != 4 {
		t.Error("P32.1: Conflicts", n)
	}
	for k, x := range []struct {
		i, side int
		s       string
	}{{0, 0, "(conflict 1 || 2 || 3)"}, {0, 1, "4"}, {1, 2, "(conflict 3 || 4 || (conflict 5 || 6 || (conflict 7 || 8 || 9)))"}, {2, 1, "(conflict (conflict 1 || 2 || 3) || 4 || 6)"}, {3, 0, "(conflict (conflict 1 || 2 || 3) || 4 || (conflict 5 || 6 || 7))"}} {
		if y, err := exprmerge.Settle(e, x.i, x.side); err != api.OK || text(t, y) != x.s {
			t.Error("P32.1: Settle", k, err)
		}
	}
	if y, err := exprmerge.Side(e, 2); err != api.OK || text(t, y) != "9" {
		t.Error("P32.1: Side", err)
	}
	for _, x := range [][2]int{{-1, 0}, {4, 0}, {0, 3}, {0, -1}} {
		if y, err := exprmerge.Settle(e, x[0], x[1]); err != api.ErrRange || y.Kind != 0 {
			t.Error("P32.1: Settle", err)
		}
	}
	if y, err := exprmerge.Side(e, 3); err != api.ErrRange || y.Kind != 0 {
		t.Error("P32.1: Side", err)
	}
	bad := ex{Kind: 99, Sub: []ex{{Kind: api.SumExpr}}}
	if _, err := exprmerge.Side(bad, 9); err != api.ErrKind {
		t.Error("P32.1: Side", err)
	}
	if _, err := exprmerge.Settle(bad, 9, 9); err != api.ErrKind || exprmerge.Conflicts(bad) != 1 || exprmerge.Clean(bad) {
		t.Error("P32.1: Settle", err)
	}
	one := ex{Kind: api.IntExpr, Int: 1}
	for _, l := range [][3]ex{{bad, {}, {}}, {one, bad, {}}, {one, one, bad}} {
		if y, err := exprmerge.Merge(l[0], l[1], l[2]); err != api.ErrKind || y.Kind != 0 {
			t.Error("P32.1: Merge", err)
		}
	}
	deep := func(n int) ex {
		e := ex{Kind: api.IntExpr, Int: n}
		for range 39 {
			e = ex{Kind: api.FunExpr, Name: "x", Sub: []ex{e}}
		}
		return e
	}
	if y, err := exprmerge.Merge(deep(1), deep(2), deep(3)); err != api.ErrLimit || y.Kind != 0 {
		t.Error("P32.1: Merge", err)
	}
}
