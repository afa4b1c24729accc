package minimal_test

import (
	"fmt"
	"math/rand"
	"slices"
	"testing"

	"cordwood/api"
	"cordwood/minimal"
)

// search asks until the result is known.
func search(t *testing.T, n int, bad func(set []int) bool) ([]int, []string) {
	t.Helper()
	s, e := minimal.Start(n)
	if e != api.OK {
		t.Fatal("P57.1: Start", e)
	}
	var asked []string
	for {
		if minimal.Check(s) != api.OK {
			t.Fatal("P57.5")
		}
		set, ok := minimal.Next(s)
		r, done := minimal.Result(s)
		if ok == done || !done && len(r) != 0 {
			t.Fatal("P57.1: Next", ok, done)
		}
		if done {
			return r, asked
		}
		if len(set) == n || slices.Contains(asked, fmt.Sprint(set)) {
			t.Error("P57.4", set)
		}
		asked = append(asked, fmt.Sprint(set))
		if _, e := minimal.Tell(s, append(slices.Clone(set), 99), true); e != api.ErrMismatch {
			t.Error("P57.1: Tell", e)
		}
		if s, e = minimal.Tell(s, set, bad(set)); e != api.OK {
			t.Fatal("P57.1: Tell", e)
		}
	}
}

func contains(set []int, l ...int) bool {
	for _, n := range l {
		if !slices.Contains(set, n) {
			return false
		}
	}
	return true
}

func TestExample(t *testing.T) {
	r, asked := search(t, 3, func(set []int) bool { return contains(set, 1, 2) })
	if !slices.Equal(r, []int{1, 2}) || fmt.Sprint(asked) != "[[] [0] [1] [2] [0 1] [0 2] [1 2]]" {
		t.Error("P57.1", r, asked)
	}
	r, asked = search(t, 6, func(set []int) bool { return contains(set, 2, 4) })
	if !slices.Equal(r, []int{2, 4}) || len(asked) != 8 {
		t.Error("P57.1", r, asked)
	}
	for n := range 8 {
		if r, asked := search(t, n, func([]int) bool { return false }); len(r) != n || n <= 5 && len(asked) != 1<<n-1 || n > 5 && len(asked) != n {
			t.Error("P57.1", n, r, asked)
		}
		if r, asked := search(t, n, func([]int) bool { return true }); len(r) != 0 || n > 5 && len(asked) != n || n > 0 && n <= 5 && len(asked) != 1 {
			t.Error("P57.1", n, r, asked)
		}
	}
}

func TestRandom(t *testing.T) {
	r := rand.New(rand.NewSource(1))
	for range 300 {
		n := r.Intn(9)
		table := make([]bool, 1<<n)
		for i := range table {
			table[i] = r.Intn(4) == 0
		}
		table[1<<n-1] = true
		mask := func(set []int) int {
			m := 0
			for _, k := range set {
				m |= 1 << k
			}
			return m
		}
		result, asked := search(t, n, func(set []int) bool { return table[mask(set)] })
		if !table[mask(result)] || n > 5 && len(asked) > n*(n+1)/2 {
			t.Error("P57.2, P57.4", n, len(asked))
		}
		for m := range table {
			var set []int
			for k := range n {
				if m>>k&1 == 1 {
					set = append(set, k)
				}
			}
			if n <= 5 && table[m] && (len(set) < len(result) || len(set) == len(result) && slices.Compare(set, result) < 0) {
				t.Error("P57.2", set, result)
			}
		}
		for _, k := range result {
			if table[mask(result)&^(1<<k)] {
				t.Error("P57.3", result, k)
			}
		}
		// A monotone function: bad are the sets with one of two sets within them.
		a, b := r.Intn(1<<n), r.Intn(1<<n)
		bad := func(m int) bool { return m&a == a || m&b == b }
		result, _ = search(t, n, func(set []int) bool { return bad(mask(set)) })
		for m := range 1 << n {
			if m != mask(result) && m&mask(result) == m && bad(m) {
				t.Error("P57.3", result)
			}
		}
	}
	if result, asked := search(t, 64, func(set []int) bool { return contains(set, 3, 60) }); !slices.Equal(result, []int{3, 60}) || len(asked) > 64*65/2 {
		t.Error("P57.3", result)
	}
}

func TestErrors(t *testing.T) {
	for _, n := range []int{-1, 65} {
		if s, e := minimal.Start(n); e != api.ErrRange || s.N != 0 {
			t.Error("P57.1: Start", e)
		}
		if e := minimal.Check(api.Search{N: n, Known: []api.Known{{}}}); e != api.ErrRange {
			t.Error("P57.1: Check", e)
		}
	}
	known := func(bad bool, sets ...[]int) []api.Known {
		var l []api.Known
		for _, s := range sets {
			l = append(l, api.Known{Set: s, Bad: bad})
		}
		return l
	}
	for k, x := range []struct {
		s api.Search
		e api.Errno
	}{{api.Search{N: 2, Known: known(false, nil, []int{0})}, api.OK}, {api.Search{N: 2, Known: known(false, []int{0})}, api.ErrMismatch}, {api.Search{N: 2, Known: known(true, nil, []int{0})}, api.ErrMismatch}, {api.Search{N: 2, Known: known(false, nil, []int{0}, []int{1}, []int{0, 1})}, api.ErrMismatch}, {api.Search{N: 0, Known: known(false, nil)}, api.ErrMismatch}, {api.Search{N: 2, Known: known(false, nil, nil)}, api.ErrMismatch}} {
		if e := minimal.Check(x.s); e != x.e {
			t.Error("P57.1: Check", k, e)
		}
		if x.e == api.OK {
			continue
		}
		if set, ok := minimal.Next(x.s); ok || len(set) != 0 {
			t.Error("P57.1: Next", k)
		}
		if set, ok := minimal.Result(x.s); ok || len(set) != 0 {
			t.Error("P57.1: Result", k)
		}
		if s, e := minimal.Tell(x.s, nil, true); e != api.ErrArgument || s.N != 0 {
			t.Error("P57.1: Tell", k, e)
		}
	}
	if _, e := minimal.Tell(api.Search{N: 2, Known: known(true, nil)}, []int{0}, true); e != api.ErrState {
		t.Error("P57.1: Tell", e)
	}
}
