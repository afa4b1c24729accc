package linediff_test

import (
	"fmt"
	"math/rand"
	"slices"
	"strings"
	"testing"

	"cordwood/api"
	"cordwood/linediff"
)

func same(a, b any) bool { return fmt.Sprintf("%q", a) == fmt.Sprintf("%q", b) }

func random(r *rand.Rand, n int) []string {
	var l []string
	for range r.Intn(n) {
		l = append(l, string(rune('a'+r.Intn(3))))
	}
	return l
}

// least is the least size of hunks that turn a into b.
func least(a, b []string) int {
	if len(a) == 0 || len(b) == 0 {
		return len(a) + len(b)
	}
	n := 1 + min(least(a[1:], b), least(a, b[1:]))
	if a[0] == b[0] {
		n = min(n, least(a[1:], b[1:]))
	}
	return n
}

func TestLines(t *testing.T) {
	for s, want := range map[string][]string{"": nil, "a": {"a"}, "a\n": {"a\n"}, "\n\nx": {"\n", "\n", "x"}, "a\r\nb\n": {"a\r\n", "b\n"}} {
		l := linediff.Lines(s)
		if !slices.Equal(l, want) || linediff.Text(l) != s {
			t.Errorf("P18.2: %q %q", s, l)
		}
	}
	if linediff.Text([]string{"a", "", "b\nc"}) != "ab\nc" {
		t.Error("P18.1: Text")
	}
}

func TestDiff(t *testing.T) {
	if l := linediff.Diff([]string{"a", "b", "c"}, []string{"a", "x", "c"}); !same(l, []api.Hunk{{At: 1, Old: []string{"b"}, New: []string{"x"}}}) {
		t.Error("P18.1", l)
	}
	// Removing comes first where both are as short.
	if l := linediff.Diff([]string{"a", "b"}, []string{"b", "a"}); !same(l, []api.Hunk{{At: 0, Old: []string{"a"}}, {At: 2, New: []string{"a"}}}) {
		t.Error("P18.1", l)
	}
	if l := linediff.Diff([]string{"x"}, []string{"x", "x"}); !same(l, []api.Hunk{{At: 1, New: []string{"x"}}}) {
		t.Error("P18.1", l)
	}
	r := rand.New(rand.NewSource(1))
	for range 500 {
		a, b, c := random(r, 8), random(r, 8), random(r, 8)
		l := linediff.Diff(a, b)
		if x, e := linediff.Apply(a, l); e != api.OK || !slices.Equal(x, b) {
			t.Fatal("P18.3", a, b, l, e)
		}
		if x, e := linediff.Apply(b, linediff.Invert(l)); e != api.OK || !slices.Equal(x, a) {
			t.Error("P18.3", a, b, l, e)
		}
		n := linediff.Distance(a, b)
		if n != least(a, b) || n != linediff.Distance(b, a) || (n == 0) != slices.Equal(a, b) || linediff.Distance(a, c) > n+linediff.Distance(b, c) {
			t.Error("P18.4", a, b, n)
		}
		for i, h := range l {
			if len(h.Old)+len(h.New) == 0 || i > 0 && h.At <= l[i-1].At+len(l[i-1].Old) {
				t.Error("P18.1: hunks are apart", l)
			}
		}
	}
}

func TestLong(t *testing.T) {
	a, b := make([]string, 1001), make([]string, 1000)
	for i := range a {
		a[i] = fmt.Sprint(i % 7)
	}
	for i := range b {
		b[i] = fmt.Sprint(i % 5)
	}
	a[0], a[1000], b[0], b[999] = "p", "q", "r", "s"
	l := linediff.Diff(a, b)
	if len(l) != 1 || l[0].At != 0 || len(l[0].Old) != 1001 || len(l[0].New) != 1000 {
		t.Error("P18.1: one hunk", len(l))
	}
	if l := linediff.Diff(a[1:], b); len(l) < 2 {
		t.Error("P18.1: more hunks", len(l))
	}
	many := slices.Repeat([]string{"x"}, 1000001)
	if n := linediff.Distance(many, []string{"y"}); n != 1000002 {
		t.Error("P18.1", n)
	}
	if n := linediff.Distance(many, nil); n != 1000001 {
		t.Error("P18.1", n)
	}
}

func TestErrors(t *testing.T) {
	a := strings.Split("abc", "")
	for k, x := range []struct {
		l []api.Hunk
		e api.Errno
	}{
		{[]api.Hunk{{At: -1}}, api.ErrOrder}, {[]api.Hunk{{At: 4}}, api.ErrRange}, {[]api.Hunk{{At: 3, Old: []string{"x"}}}, api.ErrRange}, {[]api.Hunk{{At: 1<<63 - 1, Old: []string{"x"}}}, api.ErrRange},
		{[]api.Hunk{{At: 2, Old: []string{"x"}}}, api.ErrMismatch}, {[]api.Hunk{{At: 1, Old: []string{"b"}}, {At: 1}}, api.ErrOrder}, {[]api.Hunk{{At: 1, Old: []string{"b"}}, {At: 2}, {At: 2, New: a}}, api.OK},
		{[]api.Hunk{{At: 0, Old: []string{"x"}}, {At: -1}}, api.ErrMismatch},
	} {
		if l, e := linediff.Apply(a, x.l); e != x.e || e != api.OK && len(l) != 0 {
			t.Error("P18.1: Apply", k, e)
		}
	}
	if l := linediff.Invert([]api.Hunk{{At: 5, Old: a}, {At: -3, New: a[:2]}, {At: 9}}); !same(l, []api.Hunk{{At: 5, New: a}, {At: -6, Old: a[:2]}, {At: 8}}) {
		t.Error("P18.1: Invert", l)
	}
}
