package queue_test

import (
	"fmt"
	"slices"
	"testing"

	"cordwood/api"
	"cordwood/queue"
)

func TestGreatest(t *testing.T) {
	q := newQueue(t, files("a", "1"), api.MaxChanges)
	for range api.MaxChanges {
		q, _, _ = queue.Submit(q, api.Change{Author: "ann", Files: files("a", "2")})
	}
	q.Clock = api.MaxInt
	if e := queue.Check(q); e != api.OK || len(q.Changes) != 64 {
		t.Error("P58.1: Check", e)
	}
	if l := queue.Needs(q, nil); len(l) != 1 {
		t.Error("P58.1: each tree once", len(l))
	}
}

func TestDivided(t *testing.T) {
	q := newQueue(t, files("a", "1"), 1)
	for range 3 {
		q = submit(t, q, api.Change{Files: files("a", "2")})
	}
	for _, l := range [][]int{{0, 1, 2}, {1, 2, 4}, {1, 2}, {1, 3, 2}, {1, 1, 2, 3}, {2, 1, 3}, {1, 2, 3, 3}, {-1, 1, 2, 3}, {1, 2, 3, 4}} {
		x := q
		x.Pending = l
		if e := queue.Check(x); e != api.ErrMismatch {
			t.Error("P58.1: Check", l, e)
		}
	}
	x := q
	x.Pending, x.Refused = []int{1, 2}, []api.Refusal{{Change: 3}, {Change: 2}}
	if e := queue.Check(x); e != api.ErrMismatch {
		t.Error("P58.1: Check", e)
	}
	x.Refused = x.Refused[:1]
	if e := queue.Check(x); e != api.OK {
		t.Error("P58.1: Check", e)
	}
}

func TestLateChange(t *testing.T) {
	// Each landing adds a file; the change was written after the first one, and does not go with the third one.
	start := files("a", "1")
	q := newQueue(t, start, 1)
	on := start
	for i := range 3 {
		on = append(slices.Clone(on), api.File{Path: fmt.Sprint("f", i), Data: "x"})
		q = submit(t, q, api.Change{At: i, Files: on})
		q, _ = queue.Land(q, i+1)
		q = valid(t, q)
	}
	after, _ := queue.Past(q, 1)
	q = submit(t, q, api.Change{At: 1, Files: append(slices.Clone(after), api.File{Path: "late", Data: "y"})})
	green := func(l []api.File) bool {
		return !slices.Contains(l, api.File{Path: "f2", Data: "x"}) || !slices.Contains(l, api.File{Path: "late", Data: "y"})
	}
	for len(q.Pending) > 0 {
		for _, l := range queue.Needs(q, nil) {
			q = tell(t, q, l, green(l))
		}
		q, _ = step(t, q)
		if q.Clock > 20 {
			t.Fatal("P58.4")
		}
	}
	if !same(q.Refused, []api.Refusal{{Change: 4, With: []int{3}}}) {
		t.Error("P58.5", q.Refused)
	}
}
