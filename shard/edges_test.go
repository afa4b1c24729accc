package shard_test

import (
	"math/rand"
	"slices"
	"testing"

	"cordwood/api"
	"cordwood/shard"
)

func TestLeast(t *testing.T) {
	r := rand.New(rand.NewSource(5))
	for range 300 {
		n := 1 + r.Intn(5)
		costs := make([]int, r.Intn(9))
		sum := 0
		for i := range costs {
			costs[i] = r.Intn(9)
			sum += costs[i]
		}
		down := slices.Clone(costs)
		slices.Sort(down)
		slices.Reverse(down)
		want := 0
		if len(down) > 0 {
			want = down[0]
		}
		for want*n < sum {
			want++
		}
		if len(down) > n {
			want = max(want, down[n-1]+down[n])
		}
		if k, e := shard.Least(costs, n); e != api.OK || k != want {
			t.Error("P51.1: Least", costs, n, k, want)
		}
	}
}

func TestNine(t *testing.T) {
	if n, e := shard.Best(make([]int, 9), 2); e != api.ErrLimit || n != 0 {
		t.Error("P51.1: Best", n, e)
	}
	if n, e := shard.Best([]int{1, 1, 1, 1, 1, 1, 1, 2}, 2); e != api.OK || n != 5 {
		t.Error("P51.1: Best", n, e)
	}
}
