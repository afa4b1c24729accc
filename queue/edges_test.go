package queue_test

import (
	"fmt"
	"slices"
	"testing"

	"cordwood/api"
	"cordwood/queue"
)

func TestGreatest(t *testing.T) {
	q := newQueue(t, files("a", "1"), api.MaxChanges)
	for range api.MaxChanges {
		q, _, _ = queue.Submit(q, api.Change{Author: "ann", Files: files("a", "2")})
	}
	q.Clock = api.MaxInt
	if e := queue.Check(q); e != api.OK || len(q.Changes) != 64 {
		t.Error("P58.1: Check", e)
	}
	if l := queue.Needs(q, nil); len(l) != 1 {
		t.Error("P58.1: each tree once", len(l))
	}
}

func TestDivided(t *testing.T) {
	q := newQueue(t, files("a", "1"), 1)
	for range 3 {
		q = submit(t, q, api.Change{Files: files("a", "2")})
	}
	for _, l := range [][]int{{0, 1, 2}, {1, 2, 4}, {1, 2}, {1, 3, 2}, {1, 1, 2, 3}, {2, 1, 3}, {1, 2, 3, 3}, {-1, 1, 2, 3}, {1, 2, 3, 4}} {
		x := q
		x.Pending = l
		if e := queue.Check(x); e != api.ErrMismatch {
			t.Error("P58.1: Check", l, e)
		}
	}
	x := q
	x.Pending, x.Refused = []int{1, 2}, []api.Refusal{{Change: 3}, {Change: 2}}
	if e := queue.Check(x); e != api.ErrMismatch {
		t.Error("P58.1: Check", e)
	}
	x.Refused = x.Refused[:1]
	if e := queue.Check(x); e != api.OK {
		t.Error("P58.1: Check", e)
	}
}

func TestLateChange(t *testing.T) {
	// Each landing adds a file; the change was written after the first one, and does not go with the third one.
	start := files("a", "1")
	q := newQueue(t, start, 1)
	on := start
	for i := range 3 {
		on = append(slices.Clone(on), api.File{Path: fmt.Sprint("f", i), Data: "x"})
		q = submit(t, q, api.Change{At: i, Files: on})
		q, _ = queue.Land(q, i+1)
		q = valid(t, q)
	}
	after, _ := queue.Past(q, 1)
	q = submit(t, q, api.Change{At: 1, Files: append(slices.Clone(after), api.File{Path: "late", Data: "y"})})
	green := func(l []api.File) bool {
		return !slices.Contains(l, api.File{Path: "f2", Data: "x"}) || !slices.Contains(l, api.File{Path: "late", Data: "y"})
	}
	for len(q.Pending) > 0 {
		for _, l := range queue.Needs(q, nil) {
			q = tell(t, q, l, green(l))
		}
		q, _ = step(t, q)
		if q.Clock > 20 {
			t.Fatal("P58.4")
		}
	}
	if !same(q.Refused, []api.Refusal{{Change: 4, With: []int{3}}}) {
		t.Error("P58.5", q.Refused)
	}
}

func TestSkipped(t *testing.T) {
	// A change that conflicts is passed over, and the trees of the next ones are needed all the same.
	q := newQueue(t, files("a", "1", "b", "1"), 3)
	q = submit(t, q, api.Change{Files: files("a", "2", "b", "1")})
	q, _ = queue.Land(q, 1)
	q = submit(t, q, api.Change{Files: files("a", "3", "b", "1")})
	q = submit(t, q, api.Change{Files: files("a", "1", "b", "2")})
	if l := queue.Needs(q, nil); !same(l, [][]api.File{files("a", "3", "b", "1"), files("a", "2", "b", "2")}) {
		t.Error("P58.1: Needs", l)
	}
}

// refuse tells what is needed until the last change is refused, and returns with which landings.
func refuse(t *testing.T, q api.Queue, green func([]api.File) bool) []int {
	t.Helper()
	for len(q.Pending) > 0 {
		for _, l := range queue.Needs(q, nil) {
			q = tell(t, q, l, green(l))
		}
		q, _ = step(t, q)
		if q.Clock > 50 {
			t.Fatal("P58.4")
		}
	}
	if len(q.Refused) != 1 {
		t.Fatal("P58.5", q.Refused)
	}
	return q.Refused[0].With
}

func TestSetsThatDoNotGo(t *testing.T) {
	has := func(l []api.File, path, data string) bool {
		return slices.Contains(l, api.File{Path: path, Data: data})
	}
	// The second landing is red without the first one, so both are needed to explain the refusal.
	q := newQueue(t, files("a", "0", "b", "0"), 1)
	q = submit(t, submit(t, q, api.Change{Files: files("a", "1", "b", "0")}), api.Change{Files: files("a", "0", "b", "1")})
	q, _ = queue.Land(q, 1)
	q, _ = queue.Land(q, 2)
	q = submit(t, q, api.Change{Files: files("a", "0", "b", "2")})
	if with := refuse(t, q, func(l []api.File) bool { return !has(l, "b", "1") || has(l, "a", "1") }); !slices.Equal(with, []int{1, 2}) {
		t.Error("P58.5: a red set", with)
	}
	// The second landing conflicts without the first one.
	q = newQueue(t, files("a", "0", "b", "0"), 1)
	q = submit(t, q, api.Change{Files: files("a", "1", "b", "0")})
	q, _ = queue.Land(q, 1)
	q = submit(t, q, api.Change{At: 1, Files: files("a", "2", "b", "1")})
	q, _ = queue.Land(q, 2)
	q = submit(t, q, api.Change{Files: files("a", "0", "b", "2")})
	if with := refuse(t, q, func([]api.File) bool { return true }); !slices.Equal(with, []int{1, 2}) {
		t.Error("P58.5: a set with a conflict", with)
	}
}
