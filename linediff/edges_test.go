package linediff_test

import (
	"math/rand"
	"slices"
	"testing"

	"cordwood/api"
	"cordwood/linediff"
)

func TestEnd(t *testing.T) {
	// The common end is left out before the rest is compared.
	if l := linediff.Diff([]string{"a", "b"}, []string{"b", "b"}); !same(l, []api.Hunk{{At: 0, Old: []string{"a"}, New: []string{"b"}}}) {
		t.Error("P18.1", l)
	}
	if l := linediff.Diff([]string{"c", "a", "b", "d"}, []string{"c", "b", "b", "d"}); !same(l, []api.Hunk{{At: 1, Old: []string{"a"}, New: []string{"b"}}}) {
		t.Error("P18.1", l)
	}
	if l := linediff.Diff([]string{"a", "a"}, []string{"a"}); !same(l, []api.Hunk{{At: 1, Old: []string{"a"}}}) {
		t.Error("P18.1: the beginning comes first", l)
	}
}

// plain finds the differences as the chapter says, with a function in place of a table.
func plain(a, b []string) []api.Hunk {
	i, k := 0, 0
	for i < len(a) && i < len(b) && a[i] == b[i] {
		i++
	}
	k = i
	m, n := len(a), len(b)
	for m > i && n > k && a[m-1] == b[n-1] {
		m, n = m-1, n-1
	}
	var l []api.Hunk
	var h api.Hunk
	begin := i
	for i < m || k < n {
		switch {
		case i < m && k < n && a[i] == b[k]:
			if len(h.Old)+len(h.New) > 0 {
				l = append(l, api.Hunk{At: begin, Old: h.Old, New: h.New})
			}
			i, k, h = i+1, k+1, api.Hunk{}
			begin = i
		case i < m && (k == n || least(a[i+1:m], b[k:n]) <= least(a[i:m], b[k+1:n])):
			h.Old = append(h.Old, a[i])
			i++
		default:
			h.New = append(h.New, b[k])
			k++
		}
	}
	if len(h.Old)+len(h.New) > 0 {
		l = append(l, api.Hunk{At: begin, Old: h.Old, New: h.New})
	}
	return l
}

func TestPlain(t *testing.T) {
	r := rand.New(rand.NewSource(9))
	for range 600 {
		a, b := random(r, 7), random(r, 7)
		if l := linediff.Diff(a, b); !same(l, plain(a, b)) {
			t.Fatal("P18.1", a, b, l, plain(a, b))
		}
	}
}

func TestProduct(t *testing.T) {
	lines := func(n int, first, middle, last string) []string {
		l := slices.Repeat([]string{middle}, n)
		l[0], l[n-1] = first, last
		return l
	}
	for _, x := range [][3]int{{1000, 1000, 3}, {101, 9901, 1}, {9901, 101, 1}} {
		// The products of the lengths are 1000000 and 1000001.
		a, b := lines(x[0], "a", "m", "b"), lines(x[1], "c", "m", "d")
		if l := linediff.Diff(a, b); len(l) > 1 != (x[2] > 1) {
			t.Error("P18.1", x, len(l))
		}
	}
	one := []string{"x"}
	many := lines(1000001, "a", "x", "b")
	if l := linediff.Diff(one, many); len(l) != 1 || len(l[0].Old) != 1 {
		t.Error("P18.1", len(l))
	}
}
