package incremental_test

import (
	"fmt"
	"math/rand"
	"slices"
	"strings"
	"testing"

	"cordwood/action"
	"cordwood/api"
	"cordwood/build"
	"cordwood/incremental"
	"cordwood/sandbox"
)

func same(a, b any) bool { return fmt.Sprintf("%q", a) == fmt.Sprintf("%q", b) }

func files(l ...string) []api.File {
	var f []api.File
	for i := 0; i < len(l); i += 2 {
		f = append(f, api.File{Path: l[i], Data: l[i+1]})
	}
	slices.SortFunc(f, func(a, b api.File) int { return strings.Compare(a.Path, b.Path) })
	return f
}

func tree(lib, test string) []api.File {
	return files("BUILD", "lib a ; test t deps a ;", "a.pk", lib, "t.pk", test)
}

const lib, test = "pub let f @1 = 2 ;", "use a ; test good @1 = (a.f = 2) ;"

func TestExample(t *testing.T) {
	c, r, w := incremental.Build(nil, tree(lib, test))
	if w != (api.Work{Run: 4}) || !same(r, build.Build(tree(lib, test))) || len(c) != 4 {
		t.Error("P44.1", w, r)
	}
	d, r, w := incremental.Build(c, tree(lib, "use a ; test good @1 = (a.f < 3) ;"))
	if w != (api.Work{Run: 3, Reused: 1}) || len(r.Targets) != 2 || incremental.Check(d) != api.OK {
		t.Error("P44.1", w, r)
	}
	if _, _, w := incremental.Build(c, tree("pub let f @1 = (1 + 1) ;", test)); w != (api.Work{Run: 3, Reused: 1}) {
		t.Error("T12: cut-off", w)
	}
	if e, r2, w := incremental.Build(c, tree(lib, test)); w != (api.Work{Reused: 4}) || !same(e, c) || !same(r2, build.Build(tree(lib, test))) {
		t.Error("P44.3", w)
	}
}

func random(r *rand.Rand) []api.File {
	l := files("BUILD", "lib a ; lib b deps a ; test t deps b ; test u deps a ;")
	body := func(s ...string) string { return s[r.Intn(len(s))] }
	return append(l, files("a.pk", "pub let f @1 = "+body("1", "2", "true", "(1 + 1)", "?")+" ;", "b.pk", "use a ; pub let g @1 = "+body("a.f", "(a.f + 1)", "3")+" ;", "t.pk", "use b ; test x @1 = (b.g = "+body("2", "3")+") ;", "u.pk", body("", "use a ; test y @1 = (a.f < 2) ;", "?"))...)
}

func TestRandom(t *testing.T) {
	r := rand.New(rand.NewSource(1))
	var c []api.CacheEntry
	for range 100 {
		l := random(r)
		if r.Intn(10) == 0 {
			c = nil
		}
		want := build.Build(l)
		missing, _ := incremental.Next(c, l)
		next, report, w := incremental.Build(c, l)
		if !same(report, want) || incremental.Check(next) != api.OK || w.Run != len(next)-len(c) {
			t.Fatal("P44.2", l, report, want)
		}
		// One at a time, in any order.
		one, count := c, 0
		for {
			m, rep := incremental.Next(one, l)
			if len(m) == 0 {
				if !same(rep, want) || count != w.Run {
					t.Error("P44.4", count, w)
				}
				break
			}
			if !same(rep, api.Report{}) || count == 0 && !same(m, missing) {
				t.Error("P44.1: Next")
			}
			x := m[r.Intn(len(m))]
			o, _, _ := sandbox.Run(x)
			var e api.Errno
			if one, e = incremental.Add(one, x, o); e != api.OK {
				t.Fatal("P44.1: Add", e)
			}
			count++
		}
		trimmed := incremental.Trim(next, l)
		if m, rep := incremental.Next(trimmed, l); len(m) != 0 || !same(rep, want) || len(trimmed) != w.Run+w.Reused || len(incremental.Trim(trimmed, l)) != len(trimmed) {
			t.Error("P44.5")
		}
		c = next
	}
}

func TestWrong(t *testing.T) {
	l := tree(lib, test)
	c, _, _ := incremental.Build(nil, l)
	// Outputs in a cache can be any valid ones; the first product with a name counts.
	wrong := slices.Clone(c)
	wrong[3].Output = api.Output{Files: []api.File{{Path: "verdict t", Data: "1 fail 3\n"}}}
	if m, r := incremental.Next(wrong, l); len(m) != 0 || r.Targets[1].Message != "tests" {
		t.Error("P44.1", r)
	}
	wrong[3].Output = api.Output{}
	if m, r := incremental.Next(wrong, l); len(m) != 0 || !r.Targets[1].Ok {
		t.Error("P44.1", r)
	}
	wrong[0].Output.Files = append(slices.Clone(wrong[0].Output.Files), api.File{Path: "verdict t", Data: "9 fail 9\n"})
	if m, r := incremental.Next(wrong, l); len(m) != 0 || r.Targets[1].Message != "tests" || !r.Targets[0].Ok {
		t.Error("P44.1: the first product", r)
	}
	wrong[0].Output = api.Output{Failed: true, Message: "broken"}
	if m, r := incremental.Next(wrong, l); len(m) != 0 || r.Targets[0].Message != "broken" || r.Targets[1].Message != "deps" {
		t.Error("P44.1", r)
	}
	wrong[0].Output = api.Output{}
	if m, r := incremental.Next(wrong, l); len(m) != 0 || r.Targets[1].Message != "limit" || !r.Targets[0].Ok {
		t.Error("P44.1: Make returns an error", r)
	}
	if m, r := incremental.Next(c[1:], l); len(m) != 1 || m[0].Action.Label != "a" || !same(r, api.Report{}) {
		t.Error("P44.1: open", m)
	}
	// A target with an open dependence and one that is not Ok is not Ok.
	two := files("BUILD", "lib a ; lib b ; lib z deps a b ;", "a.pk", "", "b.pk", "?", "z.pk", "")
	d, _, _ := incremental.Build(nil, two)
	d = slices.DeleteFunc(d, func(x api.CacheEntry) bool { return x.Ready.Action.Label == "a" })
	if m, _ := incremental.Next(d, two); len(m) != 1 {
		t.Error("P44.1: open", m)
	}
	if m, r := incremental.Next(nil, files("BUILD", "?")); len(m) != 0 || r.Err != api.ErrSyntax || r.Where != "BUILD" {
		t.Error("P44.1", r)
	}
	if d, r, w := incremental.Build(c, files("BUILD", "?")); !same(d, c) || r.Err != api.ErrSyntax || w != (api.Work{}) || len(incremental.Trim(c, files("BUILD", "?"))) != 0 {
		t.Error("P44.1", r, w)
	}
}

func TestCache(t *testing.T) {
	c, _, _ := incremental.Build(nil, tree(lib, test))
	x, o := c[1].Ready, c[1].Output
	if y, ok := incremental.Find(c, x); !ok || !same(y, o) {
		t.Error("P44.1: Find")
	}
	// Digests are not trusted: the files are compared.
	forged := x
	forged.Files = slices.Clone(x.Files)
	forged.Files[0].Data += " "
	if y, ok := incremental.Find(c, forged); ok || !same(y, api.Output{}) {
		t.Error("P44.1: Find")
	}
	if d, e := incremental.Add(c, x, o); e != api.OK || !same(d, c) {
		t.Error("P44.1: Add", e)
	}
	for k, y := range []struct {
		x api.Ready
		o api.Output
		e api.Errno
	}{{api.Ready{}, api.Output{Failed: true}, api.ErrKind}, {forged, o, api.ErrDigest}, {x, api.Output{Failed: true}, api.ErrArgument}, {x, api.Output{}, api.ErrConflict}} {
		if d, e := incremental.Add(c, y.x, y.o); e != y.e || len(d) != 0 {
			t.Error("P44.1: Add", k, e)
		}
	}
	for k, y := range []struct {
		c []api.CacheEntry
		e api.Errno
	}{{nil, api.OK}, {c, api.OK}, {append(slices.Clone(c), c[0]), api.ErrExists}, {[]api.CacheEntry{{}}, api.ErrKind}, {[]api.CacheEntry{{Ready: x, Output: api.Output{Failed: true}}}, api.ErrArgument}} {
		if e := incremental.Check(y.c); e != y.e {
			t.Error("P44.1: Check", k, e)
		}
	}
	if _, e := action.EncodeOutput(o); e != api.OK {
		t.Error(e)
	}
}
