package conflict_test

import (
	"fmt"
	"math/rand"
	"strings"
	"testing"

	"cordwood/api"
	"cordwood/conflict"
)

func same(a, b any) bool { return fmt.Sprintf("%q", a) == fmt.Sprintf("%q", b) }

func sum(adds, removes string) api.Sum {
	return api.Sum{Adds: strings.Fields(adds), Removes: strings.Fields(removes)}
}

func merge(t *testing.T, base, left, right api.Sum) api.Sum {
	t.Helper()
	s, e := conflict.Merge(base, left, right)
	if e != api.OK || conflict.Check(s) != api.OK {
		t.Fatal("P31.5: Merge", e)
	}
	return s
}

func TestExample(t *testing.T) {
	s := merge(t, conflict.Of("x"), conflict.Of("y"), conflict.Of("z"))
	if !same(s, sum("y z", "x")) || conflict.Sides(s) != 2 {
		t.Error("P31.3", s)
	}
	if v, ok := conflict.Value(s); v != "" || ok {
		t.Error("P31.1: Value")
	}
	s = merge(t, conflict.Of("z"), s, conflict.Of("x"))
	if v, ok := conflict.Value(s); v != "y" || !ok {
		t.Error("P31.3", s)
	}
}

func TestRandom(t *testing.T) {
	r := rand.New(rand.NewSource(1))
	value := func() api.Sum { return conflict.Of(string(rune('a' + r.Intn(5)))) }
	random := func() api.Sum {
		s := value()
		for range r.Intn(4) {
			s = merge(t, value(), s, value())
		}
		return s
	}
	for range 500 {
		base, left, right := random(), random(), random()
		s := merge(t, base, left, right)
		if !same(s, merge(t, base, right, left)) || !same(merge(t, base, base, right), right) || !same(merge(t, base, left, base), left) || !same(merge(t, base, left, left), left) {
			t.Error("P31.2", base, left, right)
		}
		text, e := conflict.Encode(s)
		if back, f := conflict.Decode(text); e != api.OK || f != api.OK || !same(back, s) {
			t.Error("P31.5", e, f)
		}
		a, b, c, d := value(), value(), value(), value()
		x := merge(t, a, s, b)
		y := merge(t, c, s, d)
		if same(s, b) || same(s, d) || same(x, d) || same(y, b) {
			continue
		}
		if !same(merge(t, c, x, d), merge(t, a, y, b)) {
			t.Error("P31.4", s, a, b, c, d)
		}
	}
}

func TestErrors(t *testing.T) {
	long := strings.Repeat("a", 65537)
	many := func(n int, first string) []string {
		var l []string
		for i := range n {
			l = append(l, fmt.Sprintf("%s%04d", first, i))
		}
		return l
	}
	for k, x := range []struct {
		s api.Sum
		e api.Errno
	}{
		{api.Sum{}, api.ErrMismatch}, {sum("a", "b"), api.ErrMismatch}, {api.Sum{Adds: many(1001, "a"), Removes: many(1000, "b")}, api.ErrLimit}, {api.Sum{Adds: many(1000, "a"), Removes: many(999, "b")}, api.OK}, {api.Sum{Adds: []string{long}}, api.ErrLimit},
		{sum("b a", "c"), api.ErrOrder}, {sum("a a a", "c b"), api.ErrOrder}, {api.Sum{Adds: []string{"a", "b"}, Removes: []string{long}}, api.ErrLimit}, {sum("a b c", "b d"), api.ErrExists}, {sum("a a a", "b b"), api.OK}, {api.Sum{Adds: []string{""}}, api.OK},
	} {
		if e := conflict.Check(x.s); e != x.e {
			t.Error("P31.1: Check", k, e)
		}
		if x.e == api.OK {
			continue
		}
		if s, e := conflict.Encode(x.s); s != "" || e != x.e {
			t.Error("P31.1: Encode", k, e)
		}
		if v, ok := conflict.Value(x.s); v != "" || ok || conflict.Sides(x.s) != 0 {
			t.Error("P31.1: Value", k)
		}
		good := conflict.Of("a")
		for _, l := range [][3]api.Sum{{x.s, {}, {}}, {good, x.s, {}}, {good, good, x.s}} {
			if s, e := conflict.Merge(l[0], l[1], l[2]); e != x.e || !same(s, api.Sum{}) {
				t.Error("P31.1: Merge", k, e)
			}
		}
	}
	a, b := api.Sum{Adds: many(600, "a"), Removes: many(599, "b")}, api.Sum{Adds: many(600, "c"), Removes: many(599, "d")}
	if s, e := conflict.Merge(conflict.Of("x"), a, b); e != api.ErrLimit || !same(s, api.Sum{}) {
		t.Error("P31.1: Merge", e)
	}
	if s, e := conflict.Encode(sum("y z", "x")); s != "\x02\x01y\x01z\x01\x01x" || e != api.OK {
		t.Errorf("P31.1: %q", s)
	}
	for _, s := range []string{"", "\x01\x01a", "\x01\x01a\x01\x01a", "\x01\x01a\x00\x00", "\x02\x01b\x01a\x01\x01c", "\x02\x01a\x01b\x01\x01", "\x00\x00", "\x02\x01a\x01b\x01\x01a"} {
		if x, e := conflict.Decode(s); e != api.ErrDecode || !same(x, api.Sum{}) {
			t.Errorf("P31.5: %q %d", s, e)
		}
	}
}
