package buildfile_test

import (
	"fmt"
	"strings"
	"testing"

	"cordwood/api"
	"cordwood/buildfile"
)

func same(a, b any) bool { return fmt.Sprintf("%q", a) == fmt.Sprintf("%q", b) }

func many(n int) []string {
	var l []string
	for i := range n {
		l = append(l, fmt.Sprint("d", i))
	}
	return l
}

func TestExample(t *testing.T) {
	l, at, e := buildfile.Parse("lib list deps base visible a/ ;")
	if e != api.OK || at != 0 || !same(l, []api.Rule{{Kind: api.LibTarget, Name: "list", Deps: []string{"base"}, Visible: []string{"a/"}}}) {
		t.Error("P38.1", l, at, e)
	}
	if l, at, e := buildfile.Parse("lib list deps ;"); e != api.ErrSyntax || at != 14 || len(l) != 0 {
		t.Error("P38.1", at, e)
	}
}

func TestRoundTrip(t *testing.T) {
	for _, l := range [][]api.Rule{nil, {{Kind: 1, Name: "lib"}, {Kind: 2, Name: "test", Deps: []string{"lib", "a/b", "a/deps"}, Visible: []string{"*", "x", "a/", "deps/", "a/visible"}}}, {{Kind: 1, Name: "x", Visible: many(20), Deps: many(20)}}} {
		s, e := buildfile.Print(l)
		if e != api.OK {
			t.Fatal("P38.2", e)
		}
		for _, text := range []string{s, strings.ReplaceAll(s, " ", "\n # c ; \n "), "#\n" + strings.TrimSuffix(s, "\n") + " # end"} {
			if m, at, e := buildfile.Parse(text); e != api.OK || at != 0 || !same(m, l) || buildfile.Check(m) != api.OK {
				t.Errorf("P38.2: %q %d", text, e)
			}
		}
	}
	if s, _ := buildfile.Print([]api.Rule{{Kind: 2, Name: "t", Deps: []string{"a", "b"}, Visible: []string{"*"}}, {Kind: 1, Name: "u"}}); s != "test t deps a b visible * ;\nlib u ;\n" {
		t.Errorf("P38.1: %q", s)
	}
}

func TestPositions(t *testing.T) {
	for s, want := range map[string]int{
		"foo": 0, "lib": 3, "lib ;": 4, "lib deps ;": 4, "lib a/b ;": 4, "lib a": 5, "lib a b ;": 6, "lib a deps": 10, "lib a deps * ;": 11, "lib a deps b deps c ;": 13, "lib a visible ;": 14, "lib a visible b": 15, "lib a visible b deps c ;": 16, "lib a visible a// ;": 14, "lib a deps b visible visible ;": 21, "lib a;": 4, "lib a deps b ; ;": 15, "lib a ;x": 6, "lib A ;": 4, "lib a deps visible b ;": 11, "lib a visible / ;": 14,
	} {
		if l, at, e := buildfile.Parse(s); e != api.ErrSyntax || at != want || len(l) != 0 {
			t.Errorf("P38.4: %q %d %d", s, at, e)
		}
		fits := false
		for _, rest := range []string{"", " ;", " x ;", " x ; lib y ;", "lib x ;"} {
			if _, _, e := buildfile.Parse(s[:want] + rest); e == api.OK {
				fits = true
			}
		}
		if !fits && s != "foo" {
			t.Errorf("P38.4: %q", s[:want])
		}
	}
	for s, want := range map[string]api.Errno{"lib a ; lib a ;": api.ErrExists, "lib a deps b b ;": api.ErrExists, "lib a visible * * ;": api.ErrExists, "lib a deps " + strings.Join(many(21), " ") + " ;": api.ErrLimit, strings.Repeat(" ", 65537): api.ErrLimit} {
		if l, at, e := buildfile.Parse(s); e != want || at != 0 || len(l) != 0 {
			t.Errorf("P38.1: %.50q %d %d", s, at, e)
		}
	}
}

func TestCheck(t *testing.T) {
	var rules []api.Rule
	for _, s := range many(101) {
		rules = append(rules, api.Rule{Kind: 1, Name: s})
	}
	for k, x := range []struct {
		l []api.Rule
		e api.Errno
	}{
		{rules, api.ErrLimit}, {rules[:100], api.OK}, {[]api.Rule{{Kind: 3}}, api.ErrKind}, {[]api.Rule{{Kind: 1, Name: "visible", Deps: many(21)}}, api.ErrName}, {[]api.Rule{{Kind: 1, Name: "a/b"}}, api.ErrName}, {[]api.Rule{{Kind: 1, Name: strings.Repeat("a", 21)}}, api.ErrName}, {[]api.Rule{{Kind: 1, Name: "a", Deps: []string{"A"}, Visible: many(21)}}, api.ErrLimit}, {[]api.Rule{{Kind: 1, Name: "a", Deps: many(21)}}, api.ErrLimit},
		{[]api.Rule{{Kind: 1, Name: "a", Deps: []string{"deps"}}}, api.ErrName}, {[]api.Rule{{Kind: 1, Name: "a", Deps: []string{"*"}}}, api.ErrName}, {[]api.Rule{{Kind: 1, Name: "a", Deps: []string{"b", "b"}, Visible: []string{"?"}}}, api.ErrExists}, {[]api.Rule{{Kind: 1, Name: "a", Visible: []string{"a", "?"}}}, api.ErrName}, {[]api.Rule{{Kind: 1, Name: "a", Visible: []string{"deps"}}}, api.ErrName}, {[]api.Rule{{Kind: 1, Name: "a", Visible: []string{"/"}}}, api.ErrName}, {[]api.Rule{{Kind: 1, Name: "a", Visible: []string{"a/", "a/"}}}, api.ErrExists}, {[]api.Rule{{Kind: 1, Name: "a"}, {Kind: 2, Name: "a"}}, api.ErrExists},
	} {
		if e := buildfile.Check(x.l); e != x.e {
			t.Error("P38.1: Check", k, e)
		}
		if s, e := buildfile.Print(x.l); e != x.e || (s == "") != (e != api.OK) {
			t.Error("P38.1: Print", k, e)
		}
	}
}

func TestLabels(t *testing.T) {
	long := strings.Repeat("a", 20)
	dir := strings.Join([]string{long, long, long, long}, "/")
	for _, x := range []struct {
		dir, name, label string
		e                api.Errno
	}{
		{"", "a", "a", api.OK}, {"a/b", "c", "a/b/c", api.OK}, {"A", "c", "", api.ErrName}, {"a", "b/c", "", api.ErrName}, {"a", "", "", api.ErrName}, {"a/", "b", "", api.ErrName}, {dir, "abcdef", dir + "/abcdef", api.OK}, {dir, "abcdefg", "", api.ErrLimit}, {"deps", "deps", "deps/deps", api.OK},
	} {
		s, e := buildfile.Join(x.dir, x.name)
		if s != x.label || e != x.e {
			t.Error("P38.1: Join", x, s, e)
		}
		if e == api.OK {
			if d, n, e := buildfile.Split(s); d != x.dir || n != x.name || e != api.OK {
				t.Error("P38.3", d, n, e)
			}
		}
	}
	for _, s := range []string{"", "A", "a/", "/a", dir + "/abcdefg"} {
		if d, n, e := buildfile.Split(s); d != "" || n != "" || e != api.ErrName {
			t.Error("P38.1: Split", s, e)
		}
	}
}
