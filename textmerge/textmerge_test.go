package textmerge_test

import (
	"fmt"
	"math/rand"
	"slices"
	"strings"
	"testing"

	"cordwood/api"
	"cordwood/textmerge"
)

type regions = []api.Region

func same(a, b any) bool { return fmt.Sprintf("%q", a) == fmt.Sprintf("%q", b) }

func merge(t *testing.T, base, left, right string) regions {
	t.Helper()
	l, e := textmerge.Merge(base, left, right)
	if e != api.OK {
		t.Fatal("P19.1: Merge", e)
	}
	return l
}

func TestExample(t *testing.T) {
	l := merge(t, "a\nb\nc\n", "a\nx\nc\n", "a\nb\ny\n")
	want := regions{{Left: []string{"a\n"}}, {Conflict: true, Left: []string{"x\n", "c\n"}, Base: []string{"b\n", "c\n"}, Right: []string{"b\n", "y\n"}}}
	if !same(l, want) {
		t.Errorf("P19.1: %v", l)
	}
	if s, ok := textmerge.Clean(l); s != "" || ok {
		t.Error("P19.1: Clean")
	}
	for side, want := range []string{"a\nx\nc\n", "a\nb\nc\n", "a\nb\ny\n"} {
		x, e := textmerge.Settle(l, 0, side)
		if s, ok := textmerge.Clean(x); s != want || !ok || e != api.OK || len(x) != 1 {
			t.Error("P19.1: Settle", side, e)
		}
	}
	if s, e := textmerge.Mark(l); e != api.OK || s != "a\n<<<<<<<\nx\nc\n|||||||\nb\nc\n=======\nb\ny\n>>>>>>>\n" {
		t.Errorf("P19.1: %q %d", s, e)
	}
	if s, ok := textmerge.Clean(merge(t, "a\nb\nc\n", "a\nx\nc\n", "a\nb\nc\nd\n")); !ok || s != "a\nx\nc\nd\n" {
		t.Errorf("P19.1: %q", s)
	}
	if s, ok := textmerge.Clean(nil); s != "" || !ok {
		t.Error("P19.1: no regions")
	}
}

func random(r *rand.Rand) string {
	s := ""
	for range r.Intn(7) {
		s += string(rune('a'+r.Intn(3))) + "\n"
	}
	if r.Intn(3) == 0 {
		s += "z"
	}
	return s
}

func swap(l regions) regions {
	l = slices.Clone(l)
	for i, x := range l {
		if x.Conflict {
			l[i].Left, l[i].Right = x.Right, x.Left
		}
	}
	return l
}

func TestRandom(t *testing.T) {
	r := rand.New(rand.NewSource(1))
	for range 600 {
		base, left, right := random(r), random(r), random(r)
		l := merge(t, base, left, right)
		if !same(merge(t, base, right, left), swap(l)) {
			t.Fatalf("P19.2: %q %q %q", base, left, right)
		}
		for _, x := range []regions{merge(t, base, base, right), merge(t, base, right, base), merge(t, base, right, right)} {
			if s, ok := textmerge.Clean(x); s != right || !ok {
				t.Errorf("P19.3: %q %q %q", base, right, s)
			}
		}
		n := 0
		for _, x := range l {
			if x.Conflict {
				n++
			}
		}
		if s, e := textmerge.Mark(l); e == api.OK {
			if back, e := textmerge.Unmark(s); e != api.OK || !same(back, l) {
				t.Errorf("P19.6: %q", s)
			}
		} else if e != api.ErrSyntax {
			t.Error("P19.5: not valid", e)
		}
		if n < 2 {
			continue
		}
		a, b := r.Intn(3), r.Intn(3)
		x, _ := textmerge.Settle(l, 0, a)
		x, e := textmerge.Settle(x, 0, b)
		y, _ := textmerge.Settle(l, 1, b)
		y, f := textmerge.Settle(y, 0, a)
		if e != api.OK || f != api.OK || !same(x, y) {
			t.Errorf("P19.5: %v", l)
		}
	}
	for range 200 {
		a, b, c, d := random(r), random(r), random(r), random(r)
		a, c = strings.TrimSuffix(a, "z"), strings.TrimSuffix(c, "z")
		if s, ok := textmerge.Clean(merge(t, a+"unique\n"+b, c+"unique\n"+b, a+"unique\n"+d)); !ok || s != c+"unique\n"+d {
			t.Errorf("P19.4: %q", s)
		}
	}
}

func TestMarks(t *testing.T) {
	lines := []string{"<<<<<<<\n", "|||||||\n", "=======\n", ">>>>>>>\n", "a\n", "b\n", "c\n"}
	r := rand.New(rand.NewSource(2))
	accepted := 0
	for range 20000 {
		s := ""
		for range r.Intn(9) {
			s += lines[r.Intn(len(lines))]
		}
		l, e := textmerge.Unmark(s)
		if e != api.OK {
			if e != api.ErrSyntax || len(l) != 0 {
				t.Error("P19.1: Unmark", e)
			}
			continue
		}
		if strings.Contains(s, "<") {
			accepted++
		}
		if m, e := textmerge.Mark(l); m != s || e != api.OK {
			t.Errorf("P19.6: %q", s)
		}
	}
	if accepted == 0 {
		t.Error("P19.6: nothing was accepted")
	}
	for _, s := range []string{"<<<<<<<", "a\n=======\n", ">>>>>>>\n", "<<<<<<<\na\n|||||||\n=======\nb\n>>>>>>>", "<<<<<<<\n|||||||\n=======\nb\n>>>>>>>\n", "<<<<<<<\na\n=======\nb\n>>>>>>>\n"} {
		if l, e := textmerge.Unmark(s); e != api.ErrSyntax || len(l) != 0 {
			t.Errorf("P19.6: %q", s)
		}
	}
	s := "<<<<<<<\na\n|||||||\n=======\nb\n>>>>>>>\n"
	if l, e := textmerge.Unmark(s + s + "x"); e != api.OK || len(l) != 3 {
		t.Error("P19.6", l, e)
	}
}

func TestErrors(t *testing.T) {
	long := strings.Repeat("a", 65537)
	for _, x := range [][3]string{{long, "", ""}, {"", long, ""}, {"", "", long}} {
		if l, e := textmerge.Merge(x[0], x[1], x[2]); e != api.ErrLimit || len(l) != 0 {
			t.Error("P19.1: Merge", e)
		}
	}
	one := []string{"a\n"}
	c := api.Region{Conflict: true, Left: one, Base: []string{"b\n"}}
	for k, l := range []regions{
		{{}}, {{Left: one, Base: one}}, {{Left: one, Right: one}}, {{Left: one}, {Left: one}}, {{Left: []string{"a"}}, c}, {{Left: []string{""}}}, {{Left: []string{"a\nb\n"}}}, {{Left: []string{"a", "b"}}},
		{{Conflict: true}}, {{Conflict: true, Left: one, Right: one}}, {{Conflict: true, Left: one, Base: one}}, {{Conflict: true, Left: one, Base: []string{""}}}, {{Conflict: true, Left: []string{"a"}, Base: one}, c},
	} {
		if x, e := textmerge.Settle(l, 5, 7); e != api.ErrArgument || len(x) != 0 {
			t.Error("P19.1: Settle", k, e)
		}
		if s, e := textmerge.Mark(l); e != api.ErrArgument || s != "" {
			t.Error("P19.1: Mark", k, e)
		}
		if s, ok := textmerge.Clean(l); ok || s != "" {
			t.Error("P19.1: Clean", k)
		}
	}
	l := regions{c, {Left: one}, c, c}
	for _, x := range [][2]int{{-1, 0}, {3, 0}, {0, 3}, {0, -1}} {
		if x, e := textmerge.Settle(l, x[0], x[1]); e != api.ErrRange || len(x) != 0 {
			t.Error("P19.1: Settle", e)
		}
	}
	if x, e := textmerge.Settle(l, 1, 2); e != api.OK || !same(x, regions{c, {Left: one}, c}) {
		t.Errorf("P19.1: Settle %v", x)
	}
	if x, e := textmerge.Settle(l, 1, 1); e != api.OK || !same(x, regions{c, {Left: []string{"a\n", "b\n"}}, c}) {
		t.Errorf("P19.1: Settle %v", x)
	}
	for k, l := range []regions{{{Left: []string{"<<<<<<<\n"}}}, {{Left: []string{"======="}}}, {{Conflict: true, Left: []string{"a"}}}, {{Conflict: true, Left: []string{"a"}, Base: one}}, {{Conflict: true, Left: one, Base: []string{">>>>>>>\n"}}}} {
		want := api.ErrSyntax
		if k == 2 {
			want = api.ErrArgument
		}
		if s, e := textmerge.Mark(l); e != want || s != "" {
			t.Error("P19.1: Mark", k, e)
		}
	}
}
