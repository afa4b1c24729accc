package repomerge_test

import (
	"fmt"
	"math/rand"
	"slices"
	"strings"
	"testing"

	"cordwood/api"
	"cordwood/repomerge"
)

func same(a, b any) bool { return fmt.Sprintf("%q", a) == fmt.Sprintf("%q", b) }

func files(l ...string) []api.File {
	var f []api.File
	for i := 0; i < len(l); i += 2 {
		f = append(f, api.File{Path: l[i], Data: l[i+1]})
	}
	return f
}

func merge(t *testing.T, base, left, right []api.File) api.Merged {
	t.Helper()
	m, e := repomerge.Merge(base, left, right)
	if e != api.OK {
		t.Fatal("P36.1: Merge", e)
	}
	return m
}

func result(t *testing.T, base, left, right []api.File) []api.File {
	t.Helper()
	l, e := repomerge.Tree(merge(t, base, left, right))
	if e != api.OK {
		t.Fatal("P36.1: Tree", e)
	}
	return l
}

func TestNames(t *testing.T) {
	base := files("a.pk", "pub let f @1 = 2 ;", "b.pk", "use a ; let g @1 = a.f ;", "notes", "x\n")
	left := files("a.pk", "pub let g @1 = 2 ; # renamed", "b.pk", "use a ; let g @1 = a.g ;", "notes", "x\n")
	right := files("a.pk", "pub let f @1 = 2 ;", "b.pk", "use a ; let g @1 = a.f ; let h @2 = a.f ;", "notes", "x\ny\n")
	want := files("a.pk", "pub let g @1 = 2 ;\n", "b.pk", "use a ;\nlet g @1 = a.g ;\nlet h @2 = a.g ;\n", "notes", "x\ny\n")
	if l := result(t, base, left, right); !same(l, want) {
		t.Error("P36.6", l)
	}
	if l := result(t, base, right, left); !same(l, want) {
		t.Error("P36.4", l)
	}
}

func TestMerge(t *testing.T) {
	for k, x := range []struct{ base, left, right, want []api.File }{
		{nil, nil, nil, nil}, {nil, files("a.pk", ""), nil, files("a.pk", "")}, {files("a.pk", ""), nil, files("a.pk", ""), nil}, {files("a.pk", ""), nil, files("a.pk", "let f @1 = 1 ;"), files("a.pk", "let f @1 = 1 ;\n")}, {files("a.pk", "let f @1 = 1 ;"), files("a.pk", ""), nil, nil}, {nil, files("a.pk", "let f @1 = 1 ;"), files("a.pk", "let g @2 = 1 ;"), files("a.pk", "let f @1 = 1 ;\nlet g @2 = 1 ;\n")},
		{files("n", "a\nb\nc\n"), files("n", "x\nb\nc\n"), files("n", "a\nb\ny\n"), files("n", "x\nb\ny\n")}, {files("n", "1"), nil, files("n", "1"), nil}, {files("n", "1"), nil, nil, nil}, {nil, files("n", "1"), files("n", "1"), files("n", "1")}, {nil, files("n", "1"), nil, files("n", "1")}, {files("n", "1"), files("n", "2"), files("n", "2"), files("n", "2")},
	} {
		if l := result(t, x.base, x.left, x.right); !same(l, x.want) {
			t.Error("P36.1", k, l)
		}
	}
	m := merge(t, files("n", "1\n", "o", "x"), files("n", "2\n", "p", "1"), files("n", "3\n", "o", "y", "p", "2"))
	want := []api.TextConflict{{Path: "n", InBase: true, InLeft: true, InRight: true, Base: "1\n", Left: "2\n", Right: "3\n"}, {Path: "o", InBase: true, InRight: true, Base: "x", Right: "y"}, {Path: "p", InLeft: true, InRight: true, Left: "1", Right: "2"}}
	if !same(m.Texts, want) || len(m.Files) != 0 || repomerge.Clean(m) {
		t.Error("P36.1", m)
	}
	if l, e := repomerge.Tree(m); e != api.ErrConflict || len(l) != 0 {
		t.Error("P36.1: Tree", e)
	}
	m = merge(t, files("a.pk", "let f @1 = 1 ;"), files("a.pk", "let f @1 = 2 ;"), files("a.pk", "let f @1 = 3 ;"))
	if repomerge.Clean(m) || len(m.Modules) != 1 {
		t.Error("P36.1", m)
	}
	if repomerge.Clean(api.Merged{Modules: []api.Module{{}}}) || !repomerge.Clean(api.Merged{Files: files("", "")}) {
		t.Error("P36.1: Clean")
	}
}

func random(r *rand.Rand) []api.File {
	var l []api.File
	for _, label := range []string{"a", "b", "c/d"} {
		var b strings.Builder
		if label == "b" && len(l) > 0 {
			b.WriteString("use a ; ")
		}
		for i := range 3 {
			if r.Intn(4) > 0 || i == 0 {
				body := fmt.Sprint(r.Intn(2))
				if label == "b" && len(l) > 0 && i == 1 {
					body = "a.f0"
				}
				fmt.Fprintf(&b, "pub let f%d @%d = (%s + %d) ; ", i, i+1, body, r.Intn(2))
			}
		}
		if r.Intn(4) > 0 {
			l = append(l, api.File{Path: label + ".pk", Data: b.String()})
		}
	}
	for _, path := range []string{"n", "o"} {
		if r.Intn(3) > 0 {
			l = append(l, api.File{Path: path, Data: fmt.Sprintf("%d\nsame\n%d\n", r.Intn(2), r.Intn(2))})
		}
	}
	return l
}

func exchange(m api.Merged) string {
	m.Texts = slices.Clone(m.Texts)
	for i, x := range m.Texts {
		x.InLeft, x.InRight, x.Left, x.Right = x.InRight, x.InLeft, x.Right, x.Left
		m.Texts[i] = x
	}
	var expr func(e api.Expr) api.Expr
	expr = func(e api.Expr) api.Expr {
		e.Sub = slices.Clone(e.Sub)
		for i := range e.Sub {
			e.Sub[i] = expr(e.Sub[i])
		}
		if e.Kind == api.SumExpr {
			slices.Reverse(e.Sub)
		}
		return e
	}
	m.Modules = slices.Clone(m.Modules)
	for i := range m.Modules {
		m.Modules[i].Decls = slices.Clone(m.Modules[i].Decls)
		for k := range m.Modules[i].Decls {
			m.Modules[i].Decls[k].Body = expr(m.Modules[i].Decls[k].Body)
		}
	}
	return fmt.Sprint(m)
}

func TestRandom(t *testing.T) {
	r := rand.New(rand.NewSource(1))
	for range 300 {
		base, left, right := random(r), random(r), random(r)
		m := merge(t, base, left, right)
		if fmt.Sprint(merge(t, base, right, left)) != exchange(m) {
			t.Error("P36.4", base, left, right)
		}
		modules, others, where, e := repomerge.Load(right)
		for _, x := range []api.Merged{merge(t, base, base, right), merge(t, base, right, base), merge(t, base, right, right)} {
			if !same(x.Modules, modules) || !same(x.Files, others) || len(x.Texts) != 0 || e != api.OK || where != "" {
				t.Error("P36.3", base, right)
			}
		}
		printed, e := repomerge.Print(modules, others)
		again, rest, _, f := repomerge.Load(printed)
		if e != api.OK || f != api.OK || !same(again, modules) || !same(rest, others) {
			t.Error("P36.2", e, f)
		}
		if next, e := repomerge.Print(again, rest); e != api.OK || !same(next, printed) {
			t.Error("P36.2", e)
		}
	}
	base := files("a.pk", "pub let f @1 = 1 ;", "b.pk", "use a ; let g @1 = a.f ;", "n", "1", "o", "1")
	left := files("a.pk", "pub let f @1 = 5 ;", "b.pk", "use a ; let g @1 = a.f ;", "n", "2", "o", "1", "p", "new")
	right := files("a.pk", "pub let f @1 = 1 ;", "b.pk", "use a ; let g @1 = (a.f + 1) ;", "n", "1")
	if l := result(t, base, left, right); !same(l, files("a.pk", "pub let f @1 = 5 ;\n", "b.pk", "use a ;\nlet g @1 = (a.f + 1) ;\n", "n", "2", "p", "new")) {
		t.Error("P36.5", l)
	}
}

func TestErrors(t *testing.T) {
	for k, x := range []struct {
		l     []api.File
		where string
		e     api.Errno
	}{
		{files("b", "", "a", ""), "", api.ErrOrder}, {files("", ""), "", api.ErrName}, {files("a.pk", "use zz ;", "b.pk", "let"), "b.pk", api.ErrSyntax}, {files("a.pk", "use zz ;"), "a.pk", api.ErrNotFound}, {files("a.pk", "let a = 1 ;"), "a.pk", api.ErrRange}, {files("a.pk", "let a @1 = 1 ;", "b.pk", "use a ; let b @1 = a.a ;"), "b.pk", api.ErrScope}, {files("A.pk", "?", "a.pk.x", "?"), "", api.OK}, {files("a.pk", "use b ; pub let x @1 = b.x ;", "b.pk", "use a ; pub let x @1 = a.x ;"), "", api.OK},
	} {
		m, o, where, e := repomerge.Load(x.l)
		if where != x.where || e != x.e || e != api.OK && (len(m) != 0 || len(o) != 0) {
			t.Error("P36.1: Load", k, where, e)
		}
		for _, l := range [][3][]api.File{{x.l, nil, nil}, {nil, x.l, nil}, {nil, nil, x.l}} {
			if m, e := repomerge.Merge(l[0], l[1], l[2]); e != x.e || e != api.OK && !same(m, api.Merged{}) {
				t.Error("P36.1: Merge", k, e)
			}
		}
	}
	if m, e := repomerge.Merge(nil, files("a.pk", "", "b/a.pk", "", "c.pk", "use a ;"), files("a.pk", "", "b/a.pk", "", "c.pk", "use b/a ;")); e != api.ErrConflict || len(m.Modules) != 0 {
		t.Error("P36.1: Merge", e)
	}
	mod := func(label string, uses ...string) api.Module { return api.Module{Label: label, Uses: uses} }
	bad := mod("c")
	bad.Decls = []api.Decl{{Id: 1, Kind: 1, Names: []string{"a"}, Body: api.Expr{Kind: api.RefExpr, Int: 9}}}
	for k, x := range []struct {
		l      []api.Module
		others []api.File
		e      api.Errno
	}{
		{[]api.Module{mod("b", "zz"), mod("a")}, nil, api.ErrOrder}, {[]api.Module{mod("a"), mod("a")}, nil, api.ErrOrder}, {[]api.Module{mod("A")}, nil, api.ErrName}, {[]api.Module{mod("a", "zz"), bad}, nil, api.ErrNotFound}, {[]api.Module{bad}, nil, api.ErrScope}, {[]api.Module{mod("a")}, files("a.pk", ""), api.ErrKind}, {nil, files("b", "", "b", ""), api.ErrOrder}, {nil, files("b", "", "a", "x"), api.OK}, {[]api.Module{mod("a")}, files("a.pk/x", ""), api.ErrExists},
	} {
		l, e := repomerge.Print(x.l, x.others)
		if e != x.e || e != api.OK && len(l) != 0 {
			t.Error("P36.1: Print", k, e)
		}
		if _, e := repomerge.Tree(api.Merged{Modules: x.l, Files: x.others}); e != x.e && e != api.ErrConflict {
			t.Error("P36.1: Tree", k, e)
		}
	}
	if l, e := repomerge.Print(nil, files("b", "", "a", "x")); e != api.OK || l[0].Path != "a" {
		t.Error("P36.1: Print", l, e)
	}
}
