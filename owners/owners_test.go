package owners_test

import (
	"fmt"
	"math/rand"
	"slices"
	"strings"
	"testing"

	"cordwood/api"
	"cordwood/owners"
)

func same(a, b any) bool { return fmt.Sprintf("%q", a) == fmt.Sprintf("%q", b) }

func files(l ...string) []api.File {
	var f []api.File
	for i := 0; i < len(l); i += 2 {
		f = append(f, api.File{Path: l[i], Data: l[i+1]})
	}
	slices.SortFunc(f, func(a, b api.File) int { return strings.Compare(a.Path, b.Path) })
	return f
}

func many(n int) []string {
	var l []string
	for i := range n {
		l = append(l, fmt.Sprint("p", i))
	}
	return l
}

const top = "all group ann bob ; prefix doc/ group cid ;"

func TestExample(t *testing.T) {
	l := files("OWNERS", top, "a/OWNERS", "prefix b group dan ;")
	for path, want := range map[string]string{"doc/x": `[["cid"]]`, "x": `[["ann" "bob"]]`, "a/b": `[["dan"]]`, "a/c": `[["ann" "bob"]]`, "a/bc/d": `[["dan"]]`, "doc": `[["ann" "bob"]]`, "OWNERS": `[["ann" "bob"]]`, "a/OWNERS": `[["ann" "bob"]]`} {
		if g, e := owners.Groups(l, path); e != api.OK || fmt.Sprintf("%q", g) != want {
			t.Errorf("P54.1: %s %q %d", path, g, e)
		}
	}
	if g, e := owners.Groups(files("aOWNERS", top, "b/OWNERS", top, "OWNERS", "all"), "a/b"); e != api.OK || len(g) != 0 {
		t.Error("P54.1", g, e)
	}
	if g, e := owners.Groups(files("OWNERS", "prefix a group x ; prefix a/b group y ; all group z ; prefix a/ group w ;"), "a/bc"); e != api.OK || !same(g, [][]string{{"y"}}) {
		t.Error("P54.1: the longest prefix", g, e)
	}
	if _, e := owners.Groups(files("OWNERS", top), "/"); e != api.ErrName {
		t.Error("P54.1: Groups", e)
	}
	if _, e := owners.Groups(files("", top), "/"); e != api.ErrName {
		t.Error("P54.1: Groups", e)
	}
}

func TestRoundTrip(t *testing.T) {
	for _, l := range [][]api.OwnerRule{nil, {{Groups: [][]string{{"ann", "bob"}, {"cid"}}}, {Prefix: "doc/", Groups: [][]string{{"all", "prefix"}}}, {Prefix: "group", Groups: [][]string{{"a"}}}, {Prefix: strings.Repeat("/", 100), Groups: [][]string{many(20), many(1), many(2), many(3), many(4), many(5), many(6), many(7)}}}} {
		s, e := owners.Print(l)
		if e != api.OK {
			t.Fatal("P54.2", e)
		}
		for _, text := range []string{s, strings.ReplaceAll(s, " ", "\n # c ; \n "), "#\n" + s + "# end"} {
			if m, at, e := owners.Parse(text); e != api.OK || at != 0 || !same(m, l) {
				t.Errorf("P54.2: %q %d", text, e)
			}
		}
	}
	if s, _ := owners.Print([]api.OwnerRule{{Groups: [][]string{{"a", "b"}, {"c"}}}, {Prefix: "x", Groups: [][]string{{"d"}}}}); s != "all group a b group c ;\nprefix x group d ;\n" {
		t.Errorf("P54.1: %q", s)
	}
	for s, want := range map[string]int{"foo": 0, "all": 3, "all ;": 4, "all group": 9, "all group ;": 10, "all group group": 10, "all group a": 11, "all group a group": 17, "prefix": 6, "prefix ;": 7, "prefix ? group a ;": 7, "prefix a ;": 9, "all group a ; ;": 14, "all x": 4, "all group a;": 10, "all group ..": 10, "prefix " + strings.Repeat("a", 101): 7} {
		if l, at, e := owners.Parse(s); e != api.ErrSyntax || at != want || len(l) != 0 {
			t.Errorf("P54.1: %q %d %d", s, at, e)
		}
	}
	for s, want := range map[string]api.Errno{"all group a a ;": api.ErrExists, "all group a ; all group b ;": api.ErrExists, "all group " + strings.Join(many(21), " ") + " ;": api.ErrLimit, strings.Repeat("x", 65537): api.ErrLimit} {
		if l, at, e := owners.Parse(s); e != want || at != 0 || len(l) != 0 {
			t.Errorf("P54.1: %.40q %d %d", s, at, e)
		}
	}
}

func TestPrintErrors(t *testing.T) {
	rule := func(prefix string, groups ...[]string) []api.OwnerRule {
		return []api.OwnerRule{{Prefix: prefix, Groups: groups}}
	}
	nine := slices.Repeat([][]string{{"a"}}, 9)
	var rules []api.OwnerRule
	for i := range 101 {
		rules = append(rules, api.OwnerRule{Prefix: fmt.Sprint(i), Groups: [][]string{{"a"}}})
	}
	for k, x := range []struct {
		l []api.OwnerRule
		e api.Errno
	}{
		{rules, api.ErrLimit}, {rules[:100], api.OK}, {rule("a b"), api.ErrName}, {rule(strings.Repeat("a", 101)), api.ErrName}, {rule("a"), api.ErrArgument}, {rule("a", append(nine, nil)...), api.ErrArgument}, {rule("a", nine...), api.ErrLimit}, {rule("a", []string{"?"}, many(21)), api.ErrLimit}, {rule("a", []string{"group"}), api.ErrName}, {rule("a", []string{"a", "a", "?"}), api.ErrExists}, {append(rule("a", []string{"a"}), rule("a", []string{"b"})...), api.ErrExists},
	} {
		if s, e := owners.Print(x.l); e != x.e || (s == "") != (e != api.OK) {
			t.Error("P54.1: Print", k, e)
		}
	}
}

func TestRequired(t *testing.T) {
	old := files("OWNERS", top, "x", "1", "doc/y", "1", "doc/z", "1")
	for k, x := range []struct {
		new  []api.File
		want string
	}{
		{old, `[]`}, {files("OWNERS", top, "x", "2", "doc/y", "1", "doc/z", "1"), `[["ann" "bob"]]`}, {files("OWNERS", top, "x", "2", "doc/y", "2", "doc/z", "2"), `[["cid"] ["ann" "bob"]]`}, {files("OWNERS", top, "x", "1", "doc/z", "1"), `[["cid"]]`}, {files("OWNERS", top+" ", "x", "1", "doc/y", "1", "doc/z", "1", "new", ""), `[["ann" "bob"]]`}, {nil, `[["ann" "bob"] ["cid"]]`},
	} {
		if g, e := owners.Required(old, x.new); e != api.OK || fmt.Sprintf("%q", g) != x.want {
			t.Errorf("P54.1: Required %d %q %d", k, g, e)
		}
	}
	if _, e := owners.Required(files("", ""), files("a", "", "a/b", "")); e != api.ErrName {
		t.Error("P54.1: Required", e)
	}
	if _, e := owners.Required(nil, files("a", "", "a/b", "")); e != api.ErrExists {
		t.Error("P54.1: Required", e)
	}
	for k, x := range []struct {
		l   [][]string
		who []string
		ok  bool
	}{{nil, nil, true}, {[][]string{{"a", "b"}, {"c"}}, []string{"b", "c"}, true}, {[][]string{{"a", "b"}, {"c"}}, []string{"a", "b"}, false}, {[][]string{{}}, []string{"a"}, false}} {
		if owners.Enough(x.l, x.who) != x.ok || x.ok && !owners.Enough(x.l, append(x.who, "more")) {
			t.Error("P54.1: Enough", k)
		}
	}
}

func TestRandom(t *testing.T) {
	r := rand.New(rand.NewSource(1))
	rules := []string{"", top, "prefix b group dan ;", "all group eve ; prefix c group fay group gil ;", "?"}
	random := func() []api.File {
		var l []string
		for _, dir := range []string{"", "a/", "a/b/"} {
			l = append(l, dir+"OWNERS", rules[r.Intn(len(rules))])
			for _, f := range []string{"b0", "c", "x"} {
				if r.Intn(3) > 0 {
					l = append(l, dir+f, fmt.Sprint(r.Intn(2)))
				}
			}
		}
		return files(l...)
	}
	for range 200 {
		old, one := random(), random()
		if g, _ := owners.Required(old, old); len(g) != 0 {
			t.Error("P54.4")
		}
		// The files that only one change has changed, and those of the other one.
		two := slices.Clone(old)
		i := r.Intn(len(two))
		two[i].Data += "x"
		both := slices.Clone(two)
		k := r.Intn(len(both))
		both[k].Data += "y"
		other := slices.Clone(old)
		other[k].Data += "y"
		a, _ := owners.Required(old, two)
		b, _ := owners.Required(old, other)
		c, _ := owners.Required(old, both)
		for _, g := range slices.Concat(a, b) {
			if !slices.ContainsFunc(c, func(h []string) bool { return slices.Equal(g, h) }) {
				t.Error("P54.4")
			}
		}
		path := []string{"a/b/x", "a/c", "x", "a/b0"}[r.Intn(4)]
		g, _ := owners.Groups(one, path)
		plain := slices.DeleteFunc(slices.Clone(one), func(f api.File) bool { return !strings.HasSuffix(f.Path, "OWNERS") })
		if h, _ := owners.Groups(plain, path); !same(g, h) {
			t.Error("P54.3")
		}
	}
	near := files("OWNERS", top, "a/OWNERS", "all group eve ;")
	far := files("OWNERS", "all group zed ;", "a/OWNERS", "all group eve ;")
	x, _ := owners.Groups(near, "a/x")
	y, _ := owners.Groups(far, "a/x")
	if !same(x, y) {
		t.Error("P54.3")
	}
}
