package build_test

import (
	"fmt"
	"slices"
	"strings"
	"testing"

	"cordwood/action"
	"cordwood/api"
	"cordwood/build"
	"cordwood/eval"
	"cordwood/graph"
	"cordwood/repomerge"
	"cordwood/sandbox"
)

func same(a, b any) bool { return fmt.Sprintf("%q", a) == fmt.Sprintf("%q", b) }

func files(l ...string) []api.File {
	var f []api.File
	for i := 0; i < len(l); i += 2 {
		f = append(f, api.File{Path: l[i], Data: l[i+1]})
	}
	slices.SortFunc(f, func(a, b api.File) int { return strings.Compare(a.Path, b.Path) })
	return f
}

// statuses returns the labels of the targets with their messages.
func statuses(t *testing.T, l []api.File) string {
	t.Helper()
	r := build.Build(l)
	if r.Err != api.OK {
		return fmt.Sprint(r.Err, r.Where)
	}
	var s []string
	green := true
	for _, x := range r.Targets {
		if x.Ok != (x.Message == "") {
			t.Error("P43.2", x)
		}
		green = green && x.Ok
		s = append(s, x.Label+":"+x.Message)
	}
	if green != build.Green(l) {
		t.Error("P43.1: Green")
	}
	return strings.Join(s, " ")
}

const rules, lib = "lib a ; test t deps a ;", "pub let f @1 = 2 ;"

func tree(test string) []api.File { return files("BUILD", rules, "a.pk", lib, "t.pk", test) }

func TestExample(t *testing.T) {
	for test, want := range map[string]string{
		"use a ; test good @1 = (a.f = 2) ;": "a: t:", "use a ; test good @1 = (a.f = 3) ;": "a: t:tests", "use a ; test good @1 = (a.f = true) ;": "a: t:types", "use a ; test good @1 = (a.f = 2) ; test loop @2 = loop ;": "a: t:tests", "let": "a: t:parse", "use b ;": "a: t:undeclared", "use a ; let g @1 = a.h ;": "a: t:bind", "": "a: t:",
	} {
		if s := statuses(t, tree(test)); s != want {
			t.Error("P43.1", test, s)
		}
		more := slices.Concat(tree(test), files("u.pk", "?", "x/y", "?"))
		if !same(build.Build(more), build.Build(tree(test))) {
			t.Error("P43.4", test)
		}
	}
}

func TestTargets(t *testing.T) {
	for k, x := range []struct {
		l    []api.File
		want string
	}{
		{nil, ""}, {files("BUILD", "lib a deps b ; lib b ; lib c deps a b ; test t deps c ;", "a.pk", "use b ; pub let x @1 = b.x ;", "b.pk", "?", "c.pk", "", "t.pk", ""), "a:deps b:parse c:deps t:deps"}, {files("BUILD", "lib b ; test a deps b ;", "a.pk", "use b ; test x @1 = b.x ;", "b.pk", "pub let x @1 = true ;"), "a: b:"}, {files("BUILD", "lib a ;"), fmt.Sprint(api.ErrNotFound, "a")}, {files("BUILD", "?"), fmt.Sprint(api.ErrSyntax, "BUILD")}, {files("", ""), fmt.Sprint(api.ErrName, "")},
		{files("BUILD", "lib a ; lib b deps a ;", "a.pk", "test x @1 = false ;", "b.pk", ""), "a: b:"}, {files("BUILD", "lib a ; test b deps a ;", "a.pk", "let x @1 = 1 ;", "b.pk", "flaky f @1 = (chance 0 of 1) ;"), "a: b:"},
	} {
		if s := statuses(t, x.l); s != x.want {
			t.Error("P43.1", k, s)
		}
	}
}

func TestProducts(t *testing.T) {
	l := tree("use a ; test good @1 = (a.f = 2) ;")
	g, _, _ := graph.Load(l)
	var products []api.File
	for _, name := range []string{"source a", "source t", "code a", "iface a", "code t", "iface t", "program t", "verdict t"} {
		s, e := build.Artifact(l, name)
		if e != api.OK {
			t.Error("P43.1: Artifact", name, e)
		}
		products = append(products, api.File{Path: name, Data: s})
	}
	if products[0].Data != lib || products[7].Data != "1 pass 6\n" {
		t.Error("P43.1: Artifact", products[7])
	}
	for _, x := range []struct {
		label string
		kind  int
	}{{"a", 1}, {"t", 1}, {"t", 2}, {"t", 3}} {
		r, e := action.Make(g, x.label, x.kind, products)
		o, _, f := sandbox.Run(r)
		if e != api.OK || f != api.OK || o.Failed {
			t.Error("P43.5", x, e, f)
		}
		for _, p := range o.Files {
			if !slices.Contains(products, p) {
				t.Error("P43.5", x)
			}
		}
	}
	for name, want := range map[string]api.Errno{"program a": api.ErrNotFound, "": api.ErrNotFound} {
		if s, e := build.Artifact(l, name); s != "" || e != want {
			t.Error("P43.1: Artifact", e)
		}
	}
	if s, e := build.Artifact(files("BUILD", "?"), "source a"); s != "" || e != api.ErrSyntax {
		t.Error("P43.1: Artifact", e)
	}
	if s, e := build.Artifact(tree("?"), "code t"); s != "" || e != api.ErrNotFound {
		t.Error("P43.1: Artifact", e)
	}
	// The same targets and modules lead to the same products in another tree.
	other := files("BUILD", rules+" lib z ;", "a.pk", lib, "t.pk", "?", "z.pk", "")
	if s, e := build.Artifact(other, "code a"); s != products[2].Data || e != api.OK {
		t.Error("P43.4", e)
	}
}

func TestMeaning(t *testing.T) {
	bodies := []string{"true", "false", "(a.f = 2)", "(a.f = 3)", "loop", "((999999999 + a.f) = 1)", "(let x = (1 :: nil) in (case x of nil -> false | h :: k -> (h = 1)))"}
	for i, one := range bodies {
		for _, two := range bodies {
			test := fmt.Sprintf("use a ; test loop @1 = %s ; test more @2 = %s ;", one, two)
			l := tree(test)
			modules, _, _, e := repomerge.Load(l)
			pass := e == api.OK
			for id := 1; id < 3; id++ {
				pass = pass && eval.Test(modules, api.Name{Pack: "t", Id: id}, api.TestSteps, 0).Pass
			}
			if ok := build.Build(l).Targets[1].Ok; ok != pass {
				t.Error("P43.3", i, two, ok)
			}
		}
	}
}
