package graph_test

import (
	"fmt"
	"math/rand"
	"slices"
	"strings"
	"testing"

	"cordwood/api"
	"cordwood/buildfile"
	"cordwood/graph"
)

func same(a, b any) bool { return fmt.Sprintf("%q", a) == fmt.Sprintf("%q", b) }

func files(l ...string) []api.File {
	var f []api.File
	for i := 0; i < len(l); i += 2 {
		f = append(f, api.File{Path: l[i], Data: l[i+1]})
	}
	slices.SortFunc(f, func(a, b api.File) int { return strings.Compare(a.Path, b.Path) })
	return f
}

func target(label string, kind int, deps ...string) api.Target {
	return api.Target{Label: label, Kind: kind, Deps: deps}
}

func TestExample(t *testing.T) {
	g, where, e := graph.Load(files("BUILD", "lib a ; lib b deps a ;", "a.pk", "", "b.pk", "?"))
	if e != api.OK || where != "" || !same(g, api.Graph{Targets: []api.Target{target("a", 1), target("b", 1, "a")}}) {
		t.Error("P39.1", g, where, e)
	}
	if l, e := graph.Order(g); e != api.OK || !slices.Equal(l, []string{"a", "b"}) {
		t.Error("P39.1", l, e)
	}
	if l, e := graph.Deps(g, "b"); e != api.OK || !slices.Equal(l, []string{"a"}) {
		t.Error("P39.1", l, e)
	}
	if l := graph.Affected(g, []string{"a.pk"}); !slices.Equal(l, []string{"a", "b"}) {
		t.Error("P39.1", l)
	}
}

func TestLoad(t *testing.T) {
	long := strings.Repeat("a", 20) + "/" + strings.Repeat("a", 20) + "/" + strings.Repeat("a", 20) + "/" + strings.Repeat("a", 20)
	var many strings.Builder
	for i := range 60 {
		fmt.Fprintf(&many, "lib t%d ; ", i)
	}
	for k, x := range []struct {
		l     []api.File
		where string
		e     api.Errno
	}{
		{[]api.File{{Path: "b"}, {Path: "a"}}, "", api.ErrOrder}, {files("A/BUILD", "?", "B/BUILD", "?"), "A/BUILD", api.ErrName}, {files("a/BUILD", "?", "A/BUILD", ""), "A/BUILD", api.ErrName}, {files("a/BUILD", "lib"), "a/BUILD", api.ErrSyntax}, {files("a/BUILD", "lib x ; lib x ;"), "a/BUILD", api.ErrExists}, {files(long+"/BUILD", "lib abcdef ; lib abcdefg ;"), long + "/BUILD", api.ErrLimit}, {files("a/BUILD", many.String(), "b/BUILD", many.String()), "", api.ErrLimit},
		{files("BUILD", "lib a deps c ; lib b deps zz ;", "b.pk", ""), "a", api.ErrNotFound}, {files("BUILD", "lib a deps c ; lib b ;", "a.pk", ""), "a", api.ErrNotFound}, {files("BUILD", "test a ; lib b deps a zz ;", "a.pk", "", "b.pk", ""), "b", api.ErrKind}, {files("BUILD", "lib a deps x/y ;", "a.pk", "", "x/BUILD", "lib y ;", "x/y.pk", ""), "a", api.ErrHidden}, {files("BUILD", "lib a deps x/y ;", "a.pk", "", "x/BUILD", "lib y visible a ;", "x/y.pk", ""), "", api.OK},
		{files("BUILD", "lib c deps b ; lib b deps c ; lib a deps c ;", "a.pk", "", "b.pk", "", "c.pk", ""), "b", api.ErrCycle}, {files("BUILD", "lib a deps a ;", "a.pk", ""), "a", api.ErrCycle}, {files("xBUILD", "?", "BUILD/x", "?", "a/xBUILD", "?"), "", api.OK}, {nil, "", api.OK},
	} {
		if g, where, e := graph.Load(x.l); where != x.where || e != x.e || e != api.OK && !same(g, api.Graph{}) {
			t.Error("P39.1: Load", k, where, e)
		}
	}
}

// random returns a graph in which each target depends on earlier ones.
func random(r *rand.Rand) api.Graph {
	dirs := []string{"", "a/", "a/b/", "c/"}
	var g api.Graph
	for i := range 8 {
		x := api.Target{Label: fmt.Sprintf("%st%d", dirs[r.Intn(4)], i), Kind: 1 + r.Intn(4)/3, Visible: []string{"*"}}
		for _, y := range g.Targets {
			if y.Kind == api.LibTarget && r.Intn(3) == 0 {
				x.Deps = append(x.Deps, y.Label)
			}
		}
		g.Targets = append(g.Targets, x)
	}
	slices.SortFunc(g.Targets, func(a, b api.Target) int { return strings.Compare(a.Label, b.Label) })
	return g
}

func TestRandom(t *testing.T) {
	r := rand.New(rand.NewSource(1))
	for range 200 {
		g := random(r)
		rules := map[string][]api.Rule{}
		var l []string
		for _, x := range g.Targets {
			dir, name, _ := buildfile.Split(x.Label)
			rules[dir] = append(rules[dir], api.Rule{Kind: x.Kind, Name: name, Deps: x.Deps, Visible: x.Visible})
			l = append(l, x.Label+".pk", "")
		}
		for dir, x := range rules {
			s, _ := buildfile.Print(x)
			l = append(l, strings.TrimPrefix(dir+"/BUILD", "/"), s)
		}
		if h, _, e := graph.Load(files(l...)); e != api.OK || !same(h, g) {
			t.Fatal("P39.2", e)
		}
		order, e := graph.Order(g)
		if e != api.OK || len(order) != 8 {
			t.Fatal("P39.3", e)
		}
		for i, label := range order {
			deps, _ := graph.Deps(g, label)
			for _, d := range deps {
				users, _ := graph.Users(g, d)
				more, _ := graph.Deps(g, d)
				if slices.Index(order, d) >= i || !slices.Contains(users, label) {
					t.Error("P39.3, P39.4")
				}
				for _, x := range more {
					if !slices.Contains(deps, x) {
						t.Error("P39.4")
					}
				}
			}
			// No target that is less could have come here.
			for _, later := range order[i:] {
				d, _ := graph.Deps(g, later)
				if later < label && !slices.ContainsFunc(d, func(x string) bool { return slices.Index(order, x) >= i }) {
					t.Error("P39.1: Order")
				}
			}
		}
		paths := []string{order[r.Intn(8)] + ".pk", "a/BUILD", "x"}
		both := graph.Affected(g, paths)
		union := append(graph.Affected(g, paths[:1]), graph.Affected(g, paths[1:])...)
		slices.Sort(union)
		if !slices.Equal(both, slices.Compact(union)) {
			t.Error("P39.6")
		}
		for _, label := range order {
			d, _ := graph.Deps(g, label)
			if !slices.Contains(both, label) && slices.ContainsFunc(append(d, label), func(x string) bool { return slices.Contains(paths, x+".pk") }) {
				t.Error("P39.6")
			}
		}
	}
	if l := graph.Affected(api.Graph{Targets: []api.Target{target("a", 1), target("x/b", 1), target("x/y/c", 1)}}, []string{"x/BUILD"}); !slices.Equal(l, []string{"x/b"}) {
		t.Error("P39.1: Affected", l)
	}
	if l := graph.Affected(api.Graph{Targets: []api.Target{target("a", 1), target("x/b", 1)}}, []string{"BUILD", "/BUILD"}); !slices.Equal(l, []string{"a"}) {
		t.Error("P39.1: Affected", l)
	}
}

func TestCycle(t *testing.T) {
	for k, x := range []struct {
		l    []api.Target
		want []string
	}{
		{nil, nil}, {[]api.Target{target("a", 1, "b"), target("b", 1)}, nil}, {[]api.Target{target("a", 1, "a")}, []string{"a"}}, {[]api.Target{target("a", 1, "b", "c"), target("b", 1, "d"), target("c", 1, "a"), target("d", 1, "a")}, []string{"a", "c"}}, {[]api.Target{target("a", 1, "c", "b"), target("b", 1, "a"), target("c", 1, "a")}, []string{"a", "b"}},
		{[]api.Target{target("z", 1, "b"), target("b", 1, "c"), target("c", 1, "z", "b")}, []string{"b", "c"}}, {[]api.Target{target("a", 1), target("a", 1, "a")}, nil}, {[]api.Target{target("a", 1, "zz", "b"), target("b", 1, "a")}, []string{"a", "b"}}, {[]api.Target{target("", 1, "b"), target("b", 1, "")}, []string{"", "b"}}, {[]api.Target{target("b", 1, ""), target("", 1, "c"), target("c", 1, "b")}, []string{"", "c", "b"}},
	} {
		if c := graph.Cycle(x.l); !slices.Equal(c, x.want) {
			t.Error("P39.1: Cycle", k, c)
		}
	}
	r := rand.New(rand.NewSource(2))
	for range 300 {
		var l []api.Target
		names := strings.Split("abcdef", "")
		for _, s := range names {
			x := target(s, 1)
			for _, d := range names {
				if r.Intn(6) == 0 {
					x.Deps = append(x.Deps, d)
				}
			}
			l = append(l, x)
		}
		c := graph.Cycle(l)
		for i, s := range c {
			next := c[(i+1)%len(c)]
			if !slices.Contains(l[s[0]-'a'].Deps, next) || slices.Index(c, s) != i {
				t.Error("P39.5", c)
			}
		}
		if _, e := graph.Order(api.Graph{Targets: l}); (e == api.OK) != (len(c) == 0) {
			t.Error("P39.5", c, e)
		}
	}
}

func TestVisible(t *testing.T) {
	for k, x := range []struct {
		label   string
		visible []string
		from    string
		ok      bool
	}{{"a/b", nil, "a/c", true}, {"a/b", nil, "a/c/d", false}, {"a", nil, "b", true}, {"a", nil, "x/b", false}, {"a", []string{"*"}, "x/b", true}, {"a", []string{"x/b"}, "x/b", true}, {"a", []string{"x/"}, "x/y/b", true}, {"a", []string{"x/"}, "xy/b", false}, {"a", []string{"x"}, "x/b", false}, {"a/", nil, "a/b", true}, {"a", []string{"/"}, "/x", true}, {"x", nil, "", true}} {
		if graph.Visible(api.Target{Label: x.label, Visible: x.visible}, x.from) != x.ok {
			t.Error("P39.1: Visible", k)
		}
	}
}

func TestValid(t *testing.T) {
	many := make([]api.Target, 101)
	for i := range many {
		many[i] = target(fmt.Sprintf("t%03d", i), 1)
	}
	uses := func(n int) []string {
		var l []string
		for i := range n {
			l = append(l, many[i].Label)
		}
		return l
	}
	visible := func(l ...string) []api.Target { return []api.Target{{Label: "a", Kind: 1, Visible: l}} }
	for k, x := range []struct {
		l  []api.Target
		ok bool
	}{
		{nil, true}, {many, false}, {many[:100], true}, {[]api.Target{target("A", 1)}, false}, {[]api.Target{target("a", 3)}, false}, {[]api.Target{target("b", 1), target("a", 1)}, false}, {[]api.Target{target("a", 1), target("a", 1)}, false}, {[]api.Target{target("a", 1), target("b", 1, "a", "a")}, false}, {[]api.Target{target("a", 1, "b")}, false}, {[]api.Target{target("a", 2), target("b", 1, "a")}, false}, {[]api.Target{target("a", 1, "a")}, false}, {append(slices.Clone(many[:30]), target("u", 1, uses(21)...)), false}, {append(slices.Clone(many[:30]), target("u", 1, uses(20)...)), true}, {[]api.Target{target("deps", 1), target("x", 1, "deps")}, true},
		{visible("*", "a", "b/"), true}, {visible("a", "a"), false}, {visible("deps"), false}, {visible("A"), false}, {visible(uses(21)...), false},
	} {
		g := api.Graph{Targets: x.l}
		l, e := graph.Order(g)
		if (e == api.OK) != x.ok || !x.ok && (e != api.ErrArgument || len(l) != 0) {
			t.Error("P39.1: Order", k, e)
		}
		want := api.ErrArgument
		if x.ok {
			want = api.ErrNotFound
		}
		if l, e := graph.Deps(g, "none"); e != want || len(l) != 0 {
			t.Error("P39.1: Deps", k, e)
		}
		if l, e := graph.Users(g, "none"); e != want || len(l) != 0 {
			t.Error("P39.1: Users", k, e)
		}
		if !x.ok && len(graph.Affected(g, []string{"a.pk", "BUILD"})) != 0 {
			t.Error("P39.1: Affected", k)
		}
	}
}
