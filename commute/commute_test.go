package commute_test

import (
	"fmt"
	"math/rand"
	"slices"
	"testing"

	"cordwood/api"
	"cordwood/commute"
	"cordwood/edit"
)

func same(a, b any) bool { return fmt.Sprint(a) == fmt.Sprint(b) }

func num(n int) api.Expr { return api.Expr{Kind: api.IntExpr, Int: n} }

func decl(id int, name string, n int) api.Decl {
	return api.Decl{Id: id, Kind: 1, Names: []string{name}, Body: num(n)}
}

func name(pack string, id int, old, new string) api.Edit {
	return api.Edit{Kind: api.NameEdit, Pack: pack, Old: []api.Decl{{Id: id, Names: []string{old}}}, New: []api.Decl{{Id: id, Names: []string{new}}}}
}

func body(pack string, id int, old, new int) api.Edit {
	return api.Edit{Kind: api.BodyEdit, Pack: pack, Old: []api.Decl{{Id: id, Body: num(old)}}, New: []api.Decl{{Id: id, Body: num(new)}}}
}

func head(pack string, id int) api.Edit {
	return api.Edit{Kind: api.HeadEdit, Pack: pack, Old: []api.Decl{{Id: id, Kind: 1}}, New: []api.Decl{{Id: id, Kind: 2}}}
}

func add(pack string, d api.Decl) api.Edit {
	return api.Edit{Kind: api.AddDecl, Pack: pack, New: []api.Decl{d}}
}

func use(kind int, pack, s string) api.Edit { return api.Edit{Kind: kind, Pack: pack, Text: s} }

func TestSwap(t *testing.T) {
	module := api.Edit{Kind: api.AddModule, Pack: "a"}
	for k, x := range []struct {
		a, b api.Edit
		ok   bool
	}{
		{name("a", 3, "f", "g"), body("a", 3, 1, 2), true}, {add("a", decl(3, "f", 1)), name("a", 3, "f", "g"), false}, {name("a", 3, "f", "g"), name("a", 3, "g", "h"), false}, {name("a", 3, "f", "g"), name("a", 4, "f", "g"), true}, {name("a", 3, "f", "g"), name("b", 3, "f", "g"), true}, {head("a", 3), body("a", 3, 1, 2), true}, {head("a", 3), name("a", 3, "f", "g"), true}, {head("a", 3), head("a", 3), false},
		{module, name("a", 3, "f", "g"), false}, {module, use(api.AddUse, "a", "x"), false}, {module, module, false}, {module, use(api.AddUse, "b", "x"), true}, {use(api.AddUse, "a", "x"), use(api.RemoveUse, "a", "x"), false}, {use(api.AddUse, "a", "x"), use(api.RemoveUse, "a", "y"), true}, {use(api.AddUse, "a", "x"), add("a", decl(3, "f", 1)), true}, {add("a", decl(3, "f", 1)), add("a", decl(3, "g", 1)), false}, {add("a", decl(3, "f", 1)), add("a", decl(4, "g", 1)), true},
		{api.Edit{}, module, false}, {name("a", 3, "f", "f"), body("b", 3, 1, 2), false},
	} {
		for range 2 {
			a, b, ok := commute.Swap(x.a, x.b)
			if ok != x.ok || ok && (!same(a, x.b) || !same(b, x.a)) || !ok && (!same(a, api.Edit{}) || !same(b, api.Edit{})) {
				t.Error("P35.1: Swap", k)
			}
			inverted := edit.Invert([]api.Edit{x.a, x.b})
			if _, _, ok := commute.Swap(inverted[0], inverted[1]); ok != x.ok {
				t.Error("P35.5", k)
			}
			x.a, x.b = x.b, x.a
		}
	}
}

// random returns edits that can be applied to modules, one after the other.
func random(r *rand.Rand, l []api.Module, n int) []api.Edit {
	var edits []api.Edit
	for len(edits) < n {
		pack := []string{"a", "b"}[r.Intn(2)]
		id := 1 + r.Intn(2)
		names := []string{"f", "g"}
		e := []api.Edit{name(pack, id, names[r.Intn(2)], names[r.Intn(2)]), body(pack, id, r.Intn(2), r.Intn(2)), head(pack, id), add(pack, decl(id, names[r.Intn(2)], r.Intn(2))), {Kind: 1 + r.Intn(2), Pack: pack}, use(3+r.Intn(2), pack, []string{"x", "y"}[r.Intn(2)])}[r.Intn(6)]
		if r.Intn(2) == 0 {
			e = edit.Invert([]api.Edit{e})[0]
		}
		next, err := edit.Apply(l, []api.Edit{e})
		if err == api.OK {
			edits, l = append(edits, e), next
		}
	}
	return edits
}

func TestRandom(t *testing.T) {
	r := rand.New(rand.NewSource(1))
	start := []api.Module{{Label: "a", Decls: []api.Decl{decl(1, "f", 0)}}}
	for range 300 {
		l := random(r, start, 10)
		want, _ := edit.Apply(start, l)
		i, k := r.Intn(10), r.Intn(10)
		if moved, ok := commute.Move(l, i, k); ok {
			if x, e := edit.Apply(start, moved); e != api.OK || !same(x, want) || !same(moved[k], l[i]) {
				t.Error("P35.2", e)
			}
		}
		if a, b, ok := commute.Swap(l[8], l[9]); ok {
			before, _ := edit.Apply(start, l[:8])
			if x, e := edit.Apply(before, []api.Edit{a, b}); e != api.OK || !same(x, want) {
				t.Error("P35.2", e)
			}
		}
		needs, e := commute.Needs(l, i)
		picked, f := commute.Pick(l, i)
		dropped, g := commute.Drop(l, i)
		if e != api.OK || f != api.OK || g != api.OK || len(picked) != len(needs)+1 || !slices.IsSorted(needs) || !same(picked[len(needs)], l[i]) {
			t.Fatal("P35.1", e, f, g)
		}
		var rest, out []api.Edit
		for k := range l {
			if k != i && !slices.Contains(needs, k) {
				rest = append(rest, l[k])
			}
			if n, _ := commute.Needs(l, k); k == i || slices.Contains(n, i) {
				out = append(out, l[k])
			}
		}
		if x, e := edit.Apply(start, slices.Concat(picked, rest)); e != api.OK || !same(x, want) {
			t.Error("P35.3", e)
		}
		if _, e := edit.Apply(start, picked); e != api.OK {
			t.Error("P35.3", e)
		}
		if x, e := edit.Apply(start, slices.Concat(dropped, out)); e != api.OK || !same(x, want) {
			t.Error("P35.4", e)
		}
		if _, e := edit.Apply(start, dropped); e != api.OK {
			t.Error("P35.4", e)
		}
	}
}

func TestNeeds(t *testing.T) {
	l := []api.Edit{{Kind: api.AddModule, Pack: "a"}, add("a", decl(1, "f", 1)), add("a", decl(2, "g", 1)), name("a", 1, "f", "h"), body("a", 1, 1, 2), name("a", 1, "h", "k")}
	if n, e := commute.Needs(l, 5); e != api.OK || !slices.Equal(n, []int{0, 1, 3}) {
		t.Error("P35.1: Needs", n, e)
	}
	if d, e := commute.Drop(l, 1); e != api.OK || !same(d, []api.Edit{l[0], l[2]}) {
		t.Error("P35.1: Drop", d, e)
	}
	if p, e := commute.Pick(l, 4); e != api.OK || !same(p, []api.Edit{l[0], l[1], l[4]}) {
		t.Error("P35.1: Pick", p, e)
	}
	bad := append(slices.Clone(l), api.Edit{})
	for k, x := range []struct {
		l []api.Edit
		i int
		e api.Errno
	}{{bad, 0, api.ErrKind}, {bad, 99, api.ErrKind}, {l, -1, api.ErrRange}, {l, 6, api.ErrRange}, {nil, 0, api.ErrRange}} {
		if n, e := commute.Needs(x.l, x.i); e != x.e || len(n) != 0 {
			t.Error("P35.1: Needs", k, e)
		}
		if n, e := commute.Pick(x.l, x.i); e != x.e || len(n) != 0 {
			t.Error("P35.1: Pick", k, e)
		}
		if n, e := commute.Drop(x.l, x.i); e != x.e || len(n) != 0 {
			t.Error("P35.1: Drop", k, e)
		}
	}
	for _, x := range [][2]int{{-1, 0}, {0, 6}, {6, 0}, {0, 1}, {5, 2}} {
		if m, ok := commute.Move(l, x[0], x[1]); ok || len(m) != 0 {
			t.Error("P35.1: Move", x)
		}
	}
	if m, ok := commute.Move(l, 2, 5); !ok || !same(m, []api.Edit{l[0], l[1], l[3], l[4], l[5], l[2]}) {
		t.Error("P35.1: Move", m)
	}
	if m, ok := commute.Move(bad, 6, 6); !ok || !same(m, bad) {
		t.Error("P35.1: Move to its own place")
	}
}
