package approval_test

import (
	"fmt"
	"math/rand"
	"slices"
	"strings"
	"testing"

	"cordwood/api"
	"cordwood/approval"
	"cordwood/owners"
)

func same(a, b any) bool { return fmt.Sprintf("%q", a) == fmt.Sprintf("%q", b) }

func files(l ...string) []api.File {
	var f []api.File
	for i := 0; i < len(l); i += 2 {
		f = append(f, api.File{Path: l[i], Data: l[i+1]})
	}
	slices.SortFunc(f, func(a, b api.File) int { return strings.Compare(a.Path, b.Path) })
	return f
}

const rules = "all group ann ; prefix doc/ group bob ;"

func approve(t *testing.T, old, new []api.File, who string, id int) api.Approval {
	t.Helper()
	s, e := approval.Saw(old, new, who)
	if e != api.OK {
		t.Fatal("P55.1: Saw", e)
	}
	a := api.Approval{Who: who, Change: id, Saw: s}
	if !approval.Stands(a, old, new) {
		t.Error("P55.2")
	}
	return a
}

func TestExample(t *testing.T) {
	old := files("OWNERS", rules, "doc/y", "1", "x", "1")
	new := files("OWNERS", rules, "doc/y", "2", "x", "2")
	if g, e := approval.Missing(nil, 1, old, new); e != api.OK || !same(g, [][]string{{"bob"}, {"ann"}}) {
		t.Error("P55.1", g, e)
	}
	bob, ann := approve(t, old, new, "bob", 1), approve(t, old, new, "ann", 1)
	if g, e := approval.Missing([]api.Approval{bob, ann}, 1, old, new); e != api.OK || len(g) != 0 {
		t.Error("P55.4", g, e)
	}
	if g, e := approval.Missing([]api.Approval{bob, ann}, 2, old, new); e != api.OK || len(g) != 2 {
		t.Error("P55.1: another change", g, e)
	}
	other, doc := files("OWNERS", rules, "doc/y", "2", "x", "3"), files("OWNERS", rules, "doc/y", "3", "x", "2")
	if !approval.Stands(bob, old, other) || approval.Stands(bob, old, doc) || approval.Stands(ann, old, other) || !approval.Stands(ann, old, doc) {
		t.Error("P55.3")
	}
	if l := approval.Fallen([]api.Approval{ann, bob, {Who: "cid", Change: 1}, {Who: "ann", Change: 2}}, 1, old, other); !same(l, []api.Approval{ann, {Who: "cid", Change: 1}}) {
		t.Error("P55.5", l)
	}
	if l, e := approval.Seen(old, new, "bob"); e != api.OK || !same(l, []api.FileChange{{Path: "doc/y", HasOld: true, HasNew: true, Old: "1", New: "2"}}) {
		t.Error("P55.1: Seen", l, e)
	}
	if s, e := approval.Saw(old, files("OWNERS", rules, "doc/y", "1", "new", "ab"), "ann"); e != api.OK || s != "\x02\x03new\x00\x01\x00\x02ab\x01x\x01\x00\x011\x00" {
		t.Errorf("P55.1: %q %d", s, e)
	}
	if s, e := approval.Saw(old, new, "nobody"); e != api.OK || s != "\x00" {
		t.Errorf("P55.1: %q %d", s, e)
	}
}

func TestErrors(t *testing.T) {
	bad, worse := files("", ""), files("a", "", "a/b", "")
	l := []api.Approval{{Who: "ann", Change: 1}, {Who: "bob", Change: 2}}
	for k, x := range []struct {
		old, new []api.File
		e        api.Errno
	}{{bad, worse, api.ErrName}, {nil, worse, api.ErrExists}} {
		if c, e := approval.Seen(x.old, x.new, "ann"); e != x.e || len(c) != 0 {
			t.Error("P55.1: Seen", k, e)
		}
		if s, e := approval.Saw(x.old, x.new, "ann"); e != x.e || s != "" {
			t.Error("P55.1: Saw", k, e)
		}
		if g, e := approval.Missing(l, 1, x.old, x.new); e != x.e || len(g) != 0 {
			t.Error("P55.1: Missing", k, e)
		}
		if f := approval.Fallen(l, 1, x.old, x.new); !same(f, l[:1]) || approval.Stands(api.Approval{Who: "ann"}, x.old, x.new) {
			t.Error("P55.1: Fallen", k, f)
		}
	}
}

func TestRandom(t *testing.T) {
	r := rand.New(rand.NewSource(1))
	people := []string{"ann", "bob", "cid", "dan"}
	random := func() []api.File {
		l := []string{"OWNERS", "all group ann bob group cid ; prefix doc/ group bob dan ;"}
		for _, f := range []string{"a", "b", "doc/a", "doc/b"} {
			if r.Intn(3) > 0 {
				l = append(l, f, fmt.Sprint(r.Intn(2)))
			}
		}
		return files(l...)
	}
	for range 300 {
		old, new, other := random(), random(), random()
		var l []api.Approval
		var stand []string
		for _, who := range people {
			if r.Intn(2) == 0 {
				continue
			}
			a := approve(t, old, new, who, 1)
			l = append(l, a)
			x, _ := approval.Seen(old, new, who)
			y, _ := approval.Seen(old, other, who)
			if approval.Stands(a, old, other) != same(x, y) {
				t.Error("P55.2")
			}
			if approval.Stands(a, old, other) {
				stand = append(stand, who)
			}
		}
		missing, e := approval.Missing(l, 1, old, other)
		required, _ := owners.Required(old, other)
		if e != api.OK || (len(missing) == 0) != owners.Enough(required, stand) || len(approval.Fallen(l, 1, old, other))+len(stand) != len(l) {
			t.Error("P55.4, P55.5")
		}
		if len(l) > 0 {
			if less, _ := approval.Missing(l[1:], 1, old, other); len(less) < len(missing) {
				t.Error("P55.4")
			}
		}
		var all []api.Approval
		for _, g := range required {
			all = append(all, approve(t, old, other, g[r.Intn(len(g))], 1))
		}
		if m, _ := approval.Missing(all, 1, old, other); len(m) != 0 {
			t.Error("P55.4")
		}
	}
}
