package shard_test

import (
	"fmt"
	"math/rand"
	"slices"
	"testing"

	"cordwood/api"
	"cordwood/shard"
)

func TestExample(t *testing.T) {
	costs := []int{5, 3, 3, 2, 2}
	l, e := shard.Greedy(costs, 2)
	span, f := shard.Span(costs, l)
	if fmt.Sprint(l) != "[[0 3] [1 2 4]]" || span != 8 || e != api.OK || f != api.OK {
		t.Error("P51.1", l, span, e, f)
	}
	least, e := shard.Least(costs, 2)
	best, f := shard.Best(costs, 2)
	if least != 8 || best != 8 || e != api.OK || f != api.OK {
		t.Error("P51.1", least, best, e, f)
	}
}

// least tries all divisions.
func least(costs, sums []int) int {
	if len(costs) == 0 {
		return slices.Max(sums)
	}
	best := 1 << 60
	for i := range sums {
		sums[i] += costs[0]
		best = min(best, least(costs[1:], sums))
		sums[i] -= costs[0]
	}
	return best
}

func TestRandom(t *testing.T) {
	r := rand.New(rand.NewSource(1))
	for range 300 {
		n := 1 + r.Intn(4)
		costs := make([]int, r.Intn(9))
		for i := range costs {
			costs[i] = r.Intn(12)
		}
		l, e := shard.Greedy(costs, n)
		span, f := shard.Span(costs, l)
		low, g := shard.Least(costs, n)
		best, h := shard.Best(costs, n)
		if e != api.OK || f != api.OK || g != api.OK || h != api.OK || shard.Check(costs, l) != api.OK || len(l) != n {
			t.Fatal("P51.2", e, f, g, h)
		}
		if best != least(costs, make([]int, n)) || low > best || best > span {
			t.Error("P51.3", costs, n, low, best, span)
		}
		sum := 0
		for _, c := range costs {
			sum += c
			if c > span {
				t.Error("P51.2")
			}
		}
		if span*n < sum || 3*n*span > (4*n-1)*best {
			t.Error("P51.2, P51.4", costs, n)
		}
		mixed := slices.Clone(costs)
		r.Shuffle(len(mixed), func(i, k int) { mixed[i], mixed[k] = mixed[k], mixed[i] })
		m, _ := shard.Greedy(mixed, n)
		sums := func(costs []int, l [][]int) []int {
			s := make([]int, len(l))
			for i, part := range l {
				for _, k := range part {
					s[i] += costs[k]
				}
			}
			return s
		}
		low2, _ := shard.Least(mixed, n)
		best2, _ := shard.Best(mixed, n)
		if low != low2 || best != best2 || !slices.Equal(sums(costs, l), sums(mixed, m)) {
			t.Error("P51.5", costs, n)
		}
	}
	if n, e := shard.Least([]int{1 << 40, 1 << 40, 1 << 40}, 2); n != 1<<41 || e != api.OK {
		t.Error("P51.1: Least", n, e)
	}
	if l, e := shard.Greedy(nil, 3); len(l) != 3 || e != api.OK {
		t.Error("P51.1: Greedy", l, e)
	}
	if n, e := shard.Best([]int{1, 2, 3, 4, 5, 6, 7, 8}, 100); n != 8 || e != api.OK {
		t.Error("P51.1: Best", n, e)
	}
}

func TestErrors(t *testing.T) {
	costs := []int{1, 2, 3}
	for k, x := range []struct {
		l [][]int
		e api.Errno
	}{
		{[][]int{{0, 1, 2}}, api.OK}, {[][]int{{}, {2}, {0, 1}}, api.OK}, {[][]int{{3}}, api.ErrRange}, {[][]int{{-1}}, api.ErrRange}, {[][]int{{1, 0}}, api.ErrOrder}, {[][]int{{1, 1}}, api.ErrOrder}, {[][]int{{0, 1}, {1, 2}}, api.ErrExists}, {[][]int{{0, 1}, {0, 7}}, api.ErrExists}, {[][]int{{0, 2}}, api.ErrNotFound}, {nil, api.ErrNotFound},
	} {
		if e := shard.Check(costs, x.l); e != x.e {
			t.Error("P51.1: Check", k, e)
		}
		if n, e := shard.Span(costs, x.l); e != x.e || e != api.OK && n != 0 {
			t.Error("P51.1: Span", k, e)
		}
	}
	if n, e := shard.Span(nil, nil); n != 0 || e != api.OK {
		t.Error("P51.1: Span", n, e)
	}
	for k, x := range []struct {
		costs []int
		n     int
		e     api.Errno
	}{{make([]int, 1001), 0, api.ErrLimit}, {[]int{-1}, 0, api.ErrRange}, {[]int{1<<40 + 1}, 1, api.ErrRange}, {costs, 0, api.ErrRange}, {costs, 101, api.ErrRange}, {make([]int, 1000), 100, api.OK}} {
		if l, e := shard.Greedy(x.costs, x.n); e != x.e || e != api.OK && len(l) != 0 {
			t.Error("P51.1: Greedy", k, e)
		}
		if n, e := shard.Least(x.costs, x.n); e != x.e || n != 0 {
			t.Error("P51.1: Least", k, e)
		}
		if x.e == api.OK {
			x.e = api.ErrLimit
		}
		if n, e := shard.Best(x.costs, x.n); e != x.e || n != 0 {
			t.Error("P51.1: Best", k, e)
		}
	}
	if e := shard.Check(make([]int, 1001), [][]int{{-1}}); e != api.ErrLimit {
		t.Error("P51.1: Check", e)
	}
}
