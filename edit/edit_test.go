package edit_test

import (
	"fmt"
	"math/rand"
	"strings"
	"testing"

	"cordwood/api"
	"cordwood/bind"
	"cordwood/edit"
	"cordwood/parser"
)

func same(a, b any) bool { return fmt.Sprint(a) == fmt.Sprint(b) }

var known = []api.Interface{{Label: "x"}, {Label: "y"}, {Label: "p/y"}}

func module(t *testing.T, label, s string) api.Module {
	t.Helper()
	f, _, e := parser.Parse(s)
	if e != api.OK {
		t.Fatal(s, e)
	}
	m, e := bind.Bind(label, f, known)
	if e != api.OK {
		t.Fatal(s, e)
	}
	return m
}

func random(t *testing.T, r *rand.Rand) []api.Module {
	t.Helper()
	var l []api.Module
	for i := range 3 {
		if r.Intn(3) == 0 {
			continue
		}
		s := []string{"", "use x ; ", "use x ; use y ; ", "use p/y ; "}[r.Intn(4)]
		for k := range 3 {
			if r.Intn(3) > 0 {
				s += fmt.Sprintf("%s%s%s %s%d @%d = (%d + -1) ; ", []string{"", "conflict "}[r.Intn(2)], []string{"", "pub "}[r.Intn(2)], []string{"let", "test"}[r.Intn(2)], []string{"f", "g", "nil || f || f"}[r.Intn(3)], k, k+1, r.Intn(2))
			}
		}
		l = append(l, module(t, fmt.Sprint("m", i), s))
	}
	return l
}

func TestExample(t *testing.T) {
	a, b := module(t, "m", "let f @7 = 1 ;"), module(t, "m", "let g @7 = 2 ;")
	l, e := edit.Diff([]api.Module{a}, []api.Module{b})
	want := []api.Edit{{Kind: api.NameEdit, Pack: "m", Old: []api.Decl{{Id: 7, Names: []string{"f"}}}, New: []api.Decl{{Id: 7, Names: []string{"g"}}}}, {Kind: api.BodyEdit, Pack: "m", Old: []api.Decl{{Id: 7, Body: a.Decls[0].Body}}, New: []api.Decl{{Id: 7, Body: b.Decls[0].Body}}}}
	if e != api.OK || !same(l, want) {
		t.Error("P34.1", l, e)
	}
}

func TestOrder(t *testing.T) {
	a := []api.Module{module(t, "b", "use x ; let f @1 = 1 ;"), module(t, "c", "let f @1 = 1 ; let g @2 = 1 ; let h @4 = 1 ;")}
	b := []api.Module{module(t, "a", "use y ; let f @1 = 1 ;"), module(t, "c", "use x ; let f @1 = 1 ; pub let k @2 = 2 ; let h @3 = 1 ;")}
	l, _ := edit.Diff(a, b)
	var s []string
	for _, x := range l {
		id := 0
		for _, d := range append(append([]api.Decl{}, x.Old...), x.New...) {
			id = d.Id
		}
		s = append(s, fmt.Sprint(x.Kind, x.Pack, x.Text, id))
	}
	if want := "1 a 0;3 a y 0;3 c x 0;5 a 1;6 b 1;7 c 2;8 c 2;9 c 2;5 c 3;6 c 4;4 b x 0;2 b 0"; strings.Join(strings.Fields(strings.Join(s, ";")), "") != strings.ReplaceAll(want, " ", "") {
		t.Error("P34.1: Diff", strings.Join(s, ";"))
	}
}

func TestRandom(t *testing.T) {
	r := rand.New(rand.NewSource(1))
	for range 300 {
		a, b := random(t, r), random(t, r)
		l, e := edit.Diff(a, b)
		x, f := edit.Apply(a, l)
		if e != api.OK || f != api.OK || !same(x, b) {
			t.Fatal("P34.2", a, b, l, e, f)
		}
		back := edit.Invert(l)
		if y, e := edit.Apply(b, back); e != api.OK || !same(y, a) || !same(edit.Invert(back), l) {
			t.Error("P34.2", e)
		}
		if l, e := edit.Diff(a, a); e != api.OK || len(l) != 0 {
			t.Error("P34.2", l, e)
		}
		for i, y := range l {
			s, e := edit.Encode(y)
			if z, f := edit.Decode(s); e != api.OK || f != api.OK || !same(z, y) {
				t.Error("P34.4", y, e, f)
			}
			for k := range s {
				for _, bad := range []string{s[:k], s[:k] + string([]byte{s[k] ^ 1}) + s[k+1:]} {
					if z, e := edit.Decode(bad); e == api.OK {
						if again, _ := edit.Encode(z); again != bad {
							t.Error("P34.4", k)
						}
					} else if e != api.ErrDecode || !same(z, api.Edit{}) {
						t.Error("P34.4", k, e)
					}
				}
			}
			between, e := edit.Apply(a, l[:i])
			if e != api.OK {
				continue
			}
			if z, e := edit.Apply(between, l[i:]); e != api.OK || !same(z, b) {
				t.Error("P34.3", e)
			}
			if z, e := edit.Apply(between, []api.Edit{y, y}); e == api.OK || len(z) != 0 {
				t.Error("P34.3", y)
			}
		}
	}
	e := api.Edit{Kind: api.BodyEdit, Pack: "m", Old: []api.Decl{{Id: 1, Body: api.Expr{Kind: 1, Int: -3}}}, New: []api.Decl{{Id: 1, Body: api.Expr{Kind: 14, Int: 1, Den: 2}}}}
	if s, err := edit.Encode(e); err != api.OK || s != "\x08\x01m\x00\x01\x01\x00\x00\x00\x00\x01\x00\x00\x07\x00\x00\x01\x01\x00\x00\x00\x00\x0e\x00\x00\x02\x02\x00" {
		t.Errorf("P34.1: %q", s)
	}
}

func TestCheck(t *testing.T) {
	one := api.Expr{Kind: api.IntExpr, Int: 1}
	whole := api.Decl{Id: 1, Kind: 1, Names: []string{"f"}, Body: one}
	l := func(d ...api.Decl) []api.Decl { return d }
	for k, x := range []struct {
		e   api.Edit
		err api.Errno
	}{
		{api.Edit{}, api.ErrKind}, {api.Edit{Kind: 10}, api.ErrKind}, {api.Edit{Kind: api.AddModule, Text: "x"}, api.ErrArgument}, {api.Edit{Kind: api.AddModule, Pack: "M"}, api.ErrName}, {api.Edit{Kind: api.RemoveModule, Pack: "m"}, api.OK}, {api.Edit{Kind: api.AddModule, Pack: "m", New: l(whole)}, api.ErrArgument},
		{api.Edit{Kind: api.AddUse, Pack: "m"}, api.ErrName}, {api.Edit{Kind: api.AddUse, Pack: "m", Text: "m"}, api.ErrCycle}, {api.Edit{Kind: api.RemoveUse, Pack: "m", Text: "a/if"}, api.ErrName}, {api.Edit{Kind: api.RemoveUse, Pack: "m", Text: "a"}, api.OK}, {api.Edit{Kind: api.AddUse, Pack: "m", Text: "a", Old: l(whole)}, api.ErrArgument},
		{api.Edit{Kind: api.AddDecl, Pack: "m"}, api.ErrArgument}, {api.Edit{Kind: api.AddDecl, Pack: "m", New: l(whole, whole)}, api.ErrArgument}, {api.Edit{Kind: api.AddDecl, Pack: "m", Old: l(whole)}, api.ErrArgument}, {api.Edit{Kind: api.AddDecl, Pack: "m", New: l(whole)}, api.OK}, {api.Edit{Kind: api.RemoveDecl, Pack: "m", Old: l(api.Decl{})}, api.ErrRange}, {api.Edit{Kind: api.AddDecl, Pack: "m", New: l(whole), Text: "x"}, api.ErrArgument},
		{api.Edit{Kind: api.NameEdit, Pack: "m", Old: l(whole), New: l(whole)}, api.ErrArgument}, {api.Edit{Kind: api.NameEdit, Pack: "m", Old: l(api.Decl{Id: 1, Names: []string{"a"}}), New: l(api.Decl{Id: 1, Names: []string{"a"}})}, api.ErrArgument}, {api.Edit{Kind: api.NameEdit, Pack: "m", Old: l(api.Decl{Id: 1, Names: []string{"a"}}), New: l(api.Decl{Id: 2, Names: []string{"b"}})}, api.ErrArgument}, {api.Edit{Kind: api.NameEdit, Pack: "m", Old: l(api.Decl{Id: 1, Names: []string{"a"}}), New: l(api.Decl{Id: 1})}, api.ErrArgument},
		{api.Edit{Kind: api.NameEdit, Pack: "m", Old: l(api.Decl{Id: 1, Names: []string{"a"}}), New: l(api.Decl{Id: 1, Names: []string{"if"}})}, api.ErrName}, {api.Edit{Kind: api.BodyEdit, Pack: "m", Old: l(api.Decl{Id: 1, Body: one}), New: l(api.Decl{Id: 1})}, api.ErrKind}, {api.Edit{Kind: api.HeadEdit, Pack: "m", Old: l(api.Decl{Id: 1, Kind: 1}), New: l(api.Decl{Id: 1, Kind: 1, Doubt: true})}, api.OK}, {api.Edit{Kind: api.HeadEdit, Pack: "m", Old: l(api.Decl{Id: 1, Kind: 1}), New: l(api.Decl{Id: 1, Kind: 7})}, api.ErrKind}, {api.Edit{Kind: api.HeadEdit, Pack: "m", Old: l(api.Decl{Id: 1, Kind: 1}), New: l(api.Decl{Id: 1, Kind: 2, Body: one})}, api.ErrArgument}, {api.Edit{Kind: api.BodyEdit, Pack: "m", Old: l(api.Decl{Id: 1, Body: one, Public: true}), New: l(api.Decl{Id: 1, Body: one})}, api.ErrArgument},
	} {
		if e := edit.Check(x.e); e != x.err {
			t.Error("P34.1: Check", k, e, x.err)
		}
		if x.err == api.OK {
			continue
		}
		if s, e := edit.Encode(x.e); s != "" || e != x.err {
			t.Error("P34.1: Encode", k, e)
		}
		if m, e := edit.Apply(nil, []api.Edit{x.e}); len(m) != 0 || e != x.err {
			t.Error("P34.1: Apply", k, e)
		}
	}
	if l := edit.Invert([]api.Edit{{Kind: 77, Text: "x", Old: l(whole)}, {Kind: 1}}); !same(l, []api.Edit{{Kind: 2}, {Kind: 77, Text: "x", New: []api.Decl{whole}}}) {
		t.Error("P34.1: Invert", l)
	}
}

func TestApply(t *testing.T) {
	m := []api.Module{module(t, "m", "use x ; let f @1 = 1 ;")}
	d, other := m[0].Decls[0], api.Decl{Id: 1, Kind: 1, Names: []string{"z"}, Body: m[0].Decls[0].Body}
	name := func(id int, old, new string) api.Edit {
		return api.Edit{Kind: api.NameEdit, Pack: "m", Old: []api.Decl{{Id: id, Names: []string{old}}}, New: []api.Decl{{Id: id, Names: []string{new}}}}
	}
	for k, x := range []struct {
		l []api.Edit
		e api.Errno
	}{
		{[]api.Edit{{Kind: 1, Pack: "m"}}, api.ErrExists}, {[]api.Edit{{Kind: 2, Pack: "n"}}, api.ErrNotFound}, {[]api.Edit{{Kind: 2, Pack: "m"}}, api.ErrConflict}, {[]api.Edit{{Kind: 3, Pack: "m", Text: "x"}}, api.ErrExists}, {[]api.Edit{{Kind: 4, Pack: "m", Text: "y"}}, api.ErrNotFound}, {[]api.Edit{{Kind: 3, Pack: "n", Text: "y"}}, api.ErrNotFound},
		{[]api.Edit{{Kind: 5, Pack: "m", New: []api.Decl{d}}}, api.ErrExists}, {[]api.Edit{{Kind: 6, Pack: "m", Old: []api.Decl{other}}}, api.ErrConflict}, {[]api.Edit{name(2, "f", "g")}, api.ErrNotFound}, {[]api.Edit{name(1, "g", "f")}, api.ErrConflict}, {[]api.Edit{name(1, "f", "g"), name(1, "f", "h")}, api.ErrConflict}, {[]api.Edit{name(1, "f", "g"), {}}, api.ErrKind},
		{[]api.Edit{{Kind: 3, Pack: "m", Text: "p/x"}}, api.ErrExists}, {[]api.Edit{{Kind: 3, Pack: "m", Text: "p/x"}, {Kind: 4, Pack: "m", Text: "x"}}, api.OK}, {nil, api.OK},
	} {
		if y, e := edit.Apply(m, x.l); e != x.e || e != api.OK && len(y) != 0 {
			t.Error("P34.1: Apply", k, e)
		}
	}
	for _, f := range []func(l []api.Module) api.Errno{func(l []api.Module) api.Errno { _, e := edit.Apply(l, nil); return e }, func(l []api.Module) api.Errno { _, e := edit.Diff(l, nil); return e }, func(l []api.Module) api.Errno { _, e := edit.Diff(nil, l); return e }} {
		if f([]api.Module{{Label: "b"}, {Label: "a"}}) != api.ErrOrder || f([]api.Module{{Label: "B"}, {Label: "a"}}) != api.ErrName || f([]api.Module{{Label: "b"}, {Label: "b", Uses: []string{""}}}) != api.ErrOrder {
			t.Error("P34.1: lists")
		}
	}
}
