package modmerge_test

import (
	"fmt"
	"math/rand"
	"slices"
	"strings"
	"testing"

	"cordwood/api"
	"cordwood/bind"
	"cordwood/modmerge"
	"cordwood/parser"
)

func same(a, b any) bool { return fmt.Sprint(a) == fmt.Sprint(b) }

var known = []api.Interface{{Label: "a"}, {Label: "b"}, {Label: "c/a"}}

func module(t *testing.T, s string) api.Module {
	t.Helper()
	f, _, e := parser.Parse(s)
	if e != api.OK {
		t.Fatal(s, e)
	}
	m, e := bind.Bind("me", f, known)
	if e != api.OK {
		t.Fatal(s, e)
	}
	return m
}

func merge(t *testing.T, base, left, right string) api.Module {
	t.Helper()
	m, e := modmerge.Merge(module(t, base), module(t, left), module(t, right))
	if e != api.OK || bind.Check(m) != api.OK {
		t.Fatal("P33.1", base, left, right, e)
	}
	return m
}

func TestMerge(t *testing.T) {
	for k, x := range [][4]string{
		{"let f @1 = 1 ;", "let g @1 = 1 ;", "let f @1 = 1 ; let h @2 = f ;", "let g @1 = 1 ; let h @2 = g ;"}, {"let f @1 = 1 ;", "", "let f @1 = 2 ;", "conflict let f @1 = 2 ;"}, {"let f @1 = 1 ;", "", "let f @1 = 1 ;", ""}, {"let f @1 = 1 ;", "let f @1 = 1 ;", "", ""}, {"let f @1 = 1 ;", "", "", ""}, {"", "let f @1 = 1 ;", "", "let f @1 = 1 ;"}, {"", "", "let f @1 = 1 ;", "let f @1 = 1 ;"},
		{"let f @1 = 1 ;", "let f @1 = 3 ;", "let f @1 = 4 ;", "let f @1 = (conflict 3 || 1 || 4) ;"}, {"let f @1 = 1 ;", "let g @1 = 1 ;", "let h @1 = 1 ;", "let g || f || h @1 = 1 ;"}, {"let f @1 = 1 ;", "pub let f @1 = 1 ;", "let g @1 = 2 ;", "pub let g @1 = 2 ;"}, {"let f @1 = 1 ;", "test f @1 = 1 ;", "flaky f @1 = 1 ;", "conflict test f @1 = 1 ;"}, {"let f @1 = 1 ;", "test f @1 = 1 ;", "let f @1 = 2 ;", "test f @1 = 2 ;"},
		{"", "let f @1 = 1 ;", "let g @1 = 2 ;", "let f || nil || g @1 = (conflict 1 || nil || 2) ;"}, {"", "let f @1 = 1 ;", "let f @1 = 1 ;", "let f @1 = 1 ;"}, {"", "let f @1 = 1 ;", "test f @1 = 1 ;", "conflict let f @1 = 1 ;"}, {"", "pub let f @1 = 1 ;", "let f @1 = 1 ;", "pub let f @1 = 1 ;"}, {"pub let f @1 = 1 ;", "pub let f @1 = 1 ;", "let f @1 = 1 ;", "let f @1 = 1 ;"},
		{"use a ; use b ;", "use b ;", "use a ; use b ;", "use b ;"}, {"use a ;", "use a ;", "use a ; use b ;", "use a ; use b ;"}, {"use a ;", "use b ;", "use b ;", "use b ;"}, {"conflict let f @1 = 1 ;", "let f @1 = 1 ;", "conflict let f @1 = 1 ;", "let f @1 = 1 ;"}, {"let f || g || h @1 = 1 ;", "let f @1 = 1 ;", "let f || g || h @1 = 2 ;", "let f @1 = 2 ;"}, {"let f @1 = (1 + 2) ;", "let f @1 = (5 + 2) ;", "let f @1 = (1 + 7) ;", "let f @1 = (5 + 7) ;"},
	} {
		if m := merge(t, x[0], x[1], x[2]); !same(m, module(t, x[3])) {
			t.Error("P33.1", k, m)
		}
	}
}

func random(r *rand.Rand) string {
	var b strings.Builder
	for i := range 4 {
		if r.Intn(4) > 0 {
			fmt.Fprintf(&b, "%s%s %s%d @%d = (%d + %d) ; ", []string{"", "pub "}[r.Intn(2)], []string{"let", "let", "test"}[r.Intn(3)], []string{"f", "g"}[r.Intn(2)], i, i+1, r.Intn(2), r.Intn(2))
		}
	}
	return b.String()
}

// exchange exchanges left and right in all conflicts.
func exchange(m api.Module) api.Module {
	var expr func(e api.Expr) api.Expr
	expr = func(e api.Expr) api.Expr {
		e.Sub = slices.Clone(e.Sub)
		for i := range e.Sub {
			e.Sub[i] = expr(e.Sub[i])
		}
		if e.Kind == api.SumExpr {
			slices.Reverse(e.Sub)
		}
		return e
	}
	m.Decls = slices.Clone(m.Decls)
	for i := range m.Decls {
		d := &m.Decls[i]
		d.Names = slices.Clone(d.Names)
		slices.Reverse(d.Names)
		d.Body = expr(d.Body)
	}
	return m
}

func TestRandom(t *testing.T) {
	r := rand.New(rand.NewSource(1))
	clean := 0
	for range 500 {
		base, left, right := random(r), random(r), random(r)
		m := merge(t, base, left, right)
		if !same(merge(t, base, base, right), module(t, right)) || !same(merge(t, base, left, base), module(t, left)) || !same(merge(t, base, left, left), module(t, left)) {
			t.Error("P33.2")
		}
		if !same(merge(t, base, right, left), exchange(m)) {
			t.Error("P33.3")
		}
		if modmerge.Clean(m) != (len(modmerge.Conflicts(m)) == 0) {
			t.Error("P33.1: Clean")
		}
		if modmerge.Clean(m) {
			clean++
			if again, e := modmerge.Merge(module(t, base), module(t, left), m); e != api.OK || !same(again, m) {
				t.Error("P33.5", base, left, right)
			}
		}
		for _, s := range modmerge.Conflicts(m) {
			if s.Kind != api.BodyConflict && s.Kind != api.DoubtConflict {
				continue
			}
			x, e := modmerge.Settle(m, s, 2*r.Intn(2))
			count := func(m api.Module, own bool) int {
				n := 0
				for _, y := range modmerge.Conflicts(m) {
					if (y.Id == s.Id) == own && y.Kind != api.ClashConflict {
						n++
					}
				}
				return n
			}
			if e != api.OK || bind.Check(x) != api.OK || count(x, true) >= count(m, true) || count(x, false) != count(m, false) {
				t.Error("P33.6", s, e)
			}
		}
	}
	if clean == 0 {
		t.Error("P33.5: none")
	}
}

func TestConflicts(t *testing.T) {
	m := merge(t, "let f @1 = (1 + 2) ; let g @2 = 1 ; let k @5 = 1 ;", "let x @1 = (3 + 4) ; let h @3 = 1 ; let k @5 = 2 ;", "let y @1 = (5 + 6) ; let g @2 = 2 ; let h @4 = 1 ;")
	spot := func(kind, id, at int) api.Spot { return api.Spot{Pack: "me", Kind: kind, Id: id, At: at} }
	want := []api.Spot{spot(api.NameConflict, 1, 0), spot(api.BodyConflict, 1, 0), spot(api.BodyConflict, 1, 1), spot(api.DoubtConflict, 2, 0), spot(api.ClashConflict, 4, 0), spot(api.DoubtConflict, 5, 0)}
	if l := modmerge.Conflicts(m); !same(l, want) {
		t.Error("P33.1: Conflicts", l)
	}
	for k, x := range []struct {
		s    api.Spot
		side int
		text string
		e    api.Errno
	}{
		{want[0], 1, "f", api.OK}, {want[2], 2, "6", api.OK}, {want[3], 0, "", api.OK}, {want[3], 2, "", api.OK}, {want[4], 0, "h4", api.OK}, {want[4], 2, "", api.OK}, {want[0], 3, "", api.ErrRange}, {want[3], 1, "", api.ErrRange}, {want[4], 1, "", api.ErrRange}, {want[0], -1, "", api.ErrRange}, {spot(api.BodyConflict, 1, 2), 9, "", api.ErrNotFound}, {api.Spot{Pack: "other", Kind: 1, Id: 1}, 0, "", api.ErrNotFound},
	} {
		y, e := modmerge.Settle(m, x.s, x.side)
		if e != x.e || e != api.OK && !same(y, api.Module{}) || e == api.OK && len(modmerge.Conflicts(y)) != len(want)-1 {
			t.Error("P33.1: Settle", k, e)
		}
		if e == api.OK && !strings.Contains(fmt.Sprint(y), x.text) {
			t.Error("P33.1: Settle", k, y)
		}
	}
	// Clashes come and go with names.
	m = module(t, "let f || g || nil @1 = 1 ; let f @2 = 1 ;")
	if x, e := modmerge.Settle(m, spot(api.NameConflict, 1, 0), 0); e != api.OK || !same(modmerge.Conflicts(x), []api.Spot{spot(api.ClashConflict, 2, 0)}) {
		t.Error("P33.1: Settle", e)
	}
	if x, e := modmerge.Settle(m, spot(api.NameConflict, 1, 0), 2); e != api.ErrName || !same(x, api.Module{}) {
		t.Error("P33.1: Settle", e)
	}
	long := strings.Repeat("x", 24)
	m.Decls = []api.Decl{{Id: 1, Kind: 1, Names: []string{long}, Body: api.Expr{Kind: api.NilExpr}}, {Id: 2, Kind: 1, Names: []string{long}, Body: api.Expr{Kind: api.NilExpr}}}
	if x, e := modmerge.Settle(m, spot(api.ClashConflict, 2, 0), 0); e != api.ErrName || !same(x, api.Module{}) {
		t.Error("P33.1: Settle", e)
	}
	if len(modmerge.Conflicts(api.Module{Decls: m.Decls})) != 0 || modmerge.Clean(api.Module{}) {
		t.Error("P33.1: not valid")
	}
	if _, e := modmerge.Settle(api.Module{}, api.Spot{}, 0); e != api.ErrName {
		t.Error("P33.1: Settle", e)
	}
}

func TestErrors(t *testing.T) {
	empty := api.Module{Label: "me"}
	uses := func(l ...string) api.Module { return api.Module{Label: "me", Uses: l} }
	many := func(from, to int) []string {
		var l []string
		for i := from; i < to; i++ {
			l = append(l, fmt.Sprintf("u%03d", i))
		}
		return l
	}
	decls := func(from, to int) api.Module {
		m := empty
		for i := from; i < to; i++ {
			m.Decls = append(m.Decls, api.Decl{Id: i + 1, Kind: 1, Names: []string{fmt.Sprint("f", i)}, Body: api.Expr{Kind: api.NilExpr}})
		}
		return m
	}
	deep := func(n int) api.Module {
		e := api.Expr{Kind: api.IntExpr, Int: n}
		for range 39 {
			e = api.Expr{Kind: api.FunExpr, Name: "x", Sub: []api.Expr{e}}
		}
		return api.Module{Label: "me", Decls: []api.Decl{{Id: 5, Kind: 1, Names: []string{"f"}, Body: e}}}
	}
	for k, x := range []struct {
		base, left, right api.Module
		e                 api.Errno
	}{
		{api.Module{}, empty, empty, api.ErrName}, {empty, uses("b", "a"), api.Module{}, api.ErrOrder}, {empty, empty, api.Module{}, api.ErrName}, {empty, empty, api.Module{Label: "you"}, api.ErrMismatch}, {empty, api.Module{Label: "you"}, empty, api.ErrMismatch}, {empty, uses(many(0, 11)...), uses(many(11, 21)...), api.ErrLimit}, {empty, uses("a"), uses("c/a"), api.ErrConflict}, {uses("a"), empty, uses("c/a"), api.ErrMismatch},
		{module(t, "let f || g || h @1 = 1 ;"), module(t, "let f @1 = 1 ;"), module(t, "let g @1 = 1 ;"), api.ErrConflict}, {deep(1), deep(2), deep(3), api.ErrLimit}, {empty, decls(0, 60), decls(60, 101), api.ErrLimit}, {empty, decls(0, 60), decls(50, 100), api.OK},
	} {
		m, e := modmerge.Merge(x.base, x.left, x.right)
		if k == 7 {
			x.e = api.OK
		}
		if e != x.e || e != api.OK && !same(m, api.Module{}) {
			t.Error("P33.1: Merge", k, e)
		}
	}
}

func TestFields(t *testing.T) {
	r := rand.New(rand.NewSource(3))
	for range 200 {
		// Each of the three fields is changed by one side only.
		fields := func(changed int, in bool) (string, string, string) {
			pub, name, body := "", "f", "1"
			if changed&1 != 0 == in {
				pub = "pub "
			}
			if changed&2 != 0 == in {
				name = "g"
			}
			if changed&4 != 0 == in {
				body = "2"
			}
			return pub, name, body
		}
		text := func(pub, name, body, rest string) string {
			return fmt.Sprintf("%slet %s @1 = %s ; %s", pub, name, body, rest)
		}
		changed := r.Intn(8)
		lp, ln, lb := fields(changed, true)
		rp, rn, rb := fields(changed, false)
		m := merge(t, text("", "f", "1", ""), text(lp, ln, lb, ""), text(rp, rn, rb, ""))
		if !modmerge.Clean(m) || !same(m, module(t, text("pub ", "g", "2", ""))) {
			t.Error("P33.4", changed, m)
		}
		// Other declarations do not matter for this one.
		other := merge(t, text("", "f", "1", "let a @5 = 1 ;"), text(lp, ln, lb, "let b @5 = 2 ;"), text(rp, rn, rb, "let c @5 = 3 ; let d @6 = 1 ;"))
		if !same(other.Decls[0], m.Decls[0]) {
			t.Error("P33.4", other)
		}
	}
}
