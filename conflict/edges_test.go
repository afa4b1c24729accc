package conflict_test

import (
	"strings"
	"testing"

	"cordwood/api"
	"cordwood/conflict"
)

func TestGreatest(t *testing.T) {
	if e := conflict.Check(conflict.Of(strings.Repeat("x", api.MaxData))); e != api.OK {
		t.Error("P31.1", e)
	}
	many := func(n int, add, remove string) api.Sum {
		var s api.Sum
		for range n {
			s.Adds, s.Removes = append(s.Adds, add), append(s.Removes, remove)
		}
		s.Removes = s.Removes[1:]
		return s
	}
	// Both sides together have 1000 texts, or one more.
	for n, want := range map[int]api.Errno{500: api.OK, 501: api.ErrLimit} {
		if s, e := conflict.Merge(conflict.Of("x"), many(500, "a", "b"), many(n, "c", "d")); e != want || e == api.OK && conflict.Sides(s) != 1000 {
			t.Error("P31.1: Merge", n, e)
		}
	}
}
