package queue_test

import (
	"fmt"
	"math/rand"
	"slices"
	"testing"

	"cordwood/api"
	"cordwood/queue"
	"cordwood/rebase"
)

func same(a, b any) bool { return fmt.Sprintf("%q", a) == fmt.Sprintf("%q", b) }

func files(l ...string) []api.File {
	var f []api.File
	for i := 0; i < len(l); i += 2 {
		f = append(f, api.File{Path: l[i], Data: l[i+1]})
	}
	return f
}

func newQueue(t *testing.T, l []api.File, depth int) api.Queue {
	t.Helper()
	q, e := queue.New(l, depth)
	if e != api.OK {
		t.Fatal("P58.1: New", e)
	}
	return valid(t, q)
}

func valid(t *testing.T, q api.Queue) api.Queue {
	t.Helper()
	if e := queue.Check(q); e != api.OK {
		t.Fatal("P58.1: Check", e)
	}
	return q
}

func submit(t *testing.T, q api.Queue, c api.Change) api.Queue {
	t.Helper()
	if c.Author == "" {
		c.Author = "ann"
	}
	next, id, e := queue.Submit(q, c)
	if e != api.OK || id != len(q.Changes)+1 {
		t.Fatal("P58.1: Submit", e)
	}
	return valid(t, next)
}

func tell(t *testing.T, q api.Queue, l []api.File, green bool) api.Queue {
	t.Helper()
	q, e := queue.Tell(q, l, green)
	if e != api.OK {
		t.Fatal("P58.1: Tell", e)
	}
	return valid(t, q)
}

func step(t *testing.T, q api.Queue, held ...int) (api.Queue, []api.Event) {
	t.Helper()
	next, events, e := queue.Step(q, held)
	if e != api.OK || next.Clock != q.Clock+1 {
		t.Fatal("P58.1: Step", e)
	}
	return valid(t, next), events
}

func TestExample(t *testing.T) {
	q := newQueue(t, files("a", "1"), 1)
	q = submit(t, submit(t, q, api.Change{Files: files("a", "2")}), api.Change{Files: files("a", "3")})
	if l := queue.Needs(q, nil); !same(l, [][]api.File{files("a", "2")}) || !slices.Equal(queue.Order(q, nil), []int{1, 2}) {
		t.Error("P58.1: Needs", l)
	}
	q, events := step(t, q)
	if len(events) != 0 {
		t.Error("P58.1", events)
	}
	q, events = step(t, tell(t, q, files("a", "2"), true))
	if !same(events, []api.Event{{Kind: api.LandEvent, Change: 1}}) || !same(queue.Trunk(q), files("a", "2")) {
		t.Error("P58.1", events)
	}
	if l := queue.Needs(q, nil); !same(l, [][]api.File{files("a", "3")}) {
		t.Error("P58.1: Needs", l)
	}
	q, events = step(t, q)
	if len(events) != 0 {
		t.Error("P58.1", events)
	}
	q, events = step(t, tell(t, q, files("a", "3"), true))
	if !same(events, []api.Event{{Kind: api.RefuseEvent, Change: 2, With: []int{1}}}) || !same(q.Refused, []api.Refusal{{Change: 2, With: []int{1}}}) || len(q.Pending) != 0 {
		t.Error("P58.1", events)
	}
	if l, e := queue.Past(q, 0); e != api.OK || !same(l, files("a", "1")) {
		t.Error("P58.1: Past", e)
	}
	for _, n := range []int{-1, 2} {
		if l, e := queue.Past(q, n); e != api.ErrRange || len(l) != 0 {
			t.Error("P58.1: Past", e)
		}
	}
}

// world is a start, changes of it, and an opinion of which trees are green.
type world struct {
	start   []api.File
	changes []api.Change
	bad     [][]string
}

func random(r *rand.Rand) world {
	var w world
	paths := []string{"a", "b", "c", "d", "e"}
	for _, p := range paths {
		w.start = append(w.start, api.File{Path: p, Data: "0\n"})
	}
	for range 2 + r.Intn(5) {
		l := slices.Clone(w.start)
		for range 1 + r.Intn(2) {
			l[r.Intn(5)].Data = fmt.Sprint(1+r.Intn(2), "\n")
		}
		w.changes = append(w.changes, api.Change{Author: "ann", Priority: r.Intn(3), Files: l})
	}
	for range r.Intn(4) {
		w.bad = append(w.bad, []string{paths[r.Intn(5)], fmt.Sprint(1+r.Intn(2), "\n"), paths[r.Intn(5)], fmt.Sprint(1+r.Intn(2), "\n")})
	}
	return w
}

func (w world) green(l []api.File) bool {
	for _, b := range w.bad {
		if slices.Contains(l, api.File{Path: b[0], Data: b[1]}) && slices.Contains(l, api.File{Path: b[2], Data: b[3]}) {
			return false
		}
	}
	return true
}

// run runs a queue until nothing is pending. When it is slow, only some of the needed trees are told.
func (w world) run(t *testing.T, r *rand.Rand, depth int, slow bool) api.Queue {
	t.Helper()
	q := newQueue(t, w.start, depth)
	for _, c := range w.changes {
		q = submit(t, q, c)
	}
	for steps := 0; len(q.Pending) > 0; steps++ {
		if steps > 2000 {
			t.Fatal("P58.4")
		}
		for {
			needs := queue.Needs(q, nil)
			if len(needs) == 0 || slow && r.Intn(2) == 0 {
				break
			}
			l := needs[0]
			if slow {
				l = needs[r.Intn(len(needs))]
			}
			q = tell(t, q, l, w.green(l))
		}
		before := q
		var events []api.Event
		q, events = step(t, q)
		if !slow && len(events) != 1 {
			t.Error("P58.4: something happens when all is told")
		}
		for _, e := range events {
			if e.Kind == api.LandEvent && !slices.ContainsFunc(before.Answers, func(a api.Answer) bool { return a.Green && same(a.Files, queue.Trunk(q)) }) {
				t.Error("P58.2")
			}
		}
	}
	return q
}

// goes reports whether a change does not go with some landings, whose tree is green.
func (w world) refuses(q api.Queue, c api.Change, set []int) bool {
	on, _ := queue.Past(q, c.At)
	for _, i := range set {
		base, _ := queue.Past(q, q.Changes[q.Landed[i].Change-1].At)
		l, ok := rebase.Result(base, on, q.Changes[q.Landed[i].Change-1].Files)
		if !ok {
			return false
		}
		on = l
	}
	base, _ := queue.Past(q, c.At)
	l, ok := rebase.Result(base, on, c.Files)
	return w.green(on) && (!ok || !w.green(l))
}

func TestRandom(t *testing.T) {
	r := rand.New(rand.NewSource(1))
	for range 40 {
		w := random(r)
		q := w.run(t, r, 1, false)
		for _, other := range []api.Queue{w.run(t, r, 3, false), w.run(t, r, 2, true)} {
			if !same(q.Landed, other.Landed) || !same(q.Refused, other.Refused) {
				t.Error("P58.3")
			}
		}
		for _, x := range q.Refused {
			var set []int
			for _, id := range x.With {
				set = append(set, slices.IndexFunc(q.Landed, func(y api.Landing) bool { return y.Change == id }))
			}
			if !w.refuses(q, q.Changes[x.Change-1], set) {
				t.Error("P58.5", x)
			}
			for m := range 1 << min(len(q.Landed), 5) {
				var less []int
				for i := range q.Landed {
					if m>>i&1 == 1 {
						less = append(less, i)
					}
				}
				// Landings that came after the refusal were not known then; they can't be in a smaller set of those before.
				known := slices.IndexFunc(less, func(i int) bool { return len(set) > 0 && i > set[len(set)-1] }) < 0
				if known && len(less) < len(set) && len(q.Landed) <= 5 && w.refuses(q, q.Changes[x.Change-1], less) {
					t.Error("P58.5: a smaller set", x, less)
				}
			}
		}
	}
}

func TestHeld(t *testing.T) {
	q := newQueue(t, files("a", "1", "b", "1"), 5)
	q = submit(t, q, api.Change{Files: files("a", "2", "b", "1")})
	q = submit(t, q, api.Change{Priority: 5, Files: files("a", "1", "b", "2")})
	if l := queue.Order(q, nil); !slices.Equal(l, []int{2, 1}) {
		t.Error("P58.1: Order", l)
	}
	if l := queue.Needs(q, nil); !same(l, [][]api.File{files("a", "1", "b", "2"), files("a", "2", "b", "2")}) {
		t.Error("P58.1: Needs", l)
	}
	if l := queue.Needs(q, []int{2}); !same(l, [][]api.File{files("a", "2", "b", "1")}) {
		t.Error("P58.6", l)
	}
	q = tell(t, tell(t, q, files("a", "1", "b", "2"), true), files("a", "2", "b", "1"), true)
	held, events := step(t, q, 2)
	if len(events) != 1 || events[0].Change != 1 || !slices.Contains(held.Pending, 2) {
		t.Error("P58.6", events)
	}
	if _, events := step(t, q, 1, 2); len(events) != 0 || len(queue.Needs(q, []int{1, 2})) != 0 {
		t.Error("P58.6", events)
	}
	// A change that waits becomes more urgent than one that comes later.
	late := newQueue(t, files("a", "1", "b", "1"), 1)
	late = submit(t, late, api.Change{Files: files("a", "2", "b", "1")})
	for range 3 {
		late, _ = step(t, late)
	}
	late = submit(t, late, api.Change{Priority: 2, Files: files("a", "1", "b", "2")})
	late = submit(t, late, api.Change{Priority: 3, Files: files("a", "1", "b", "3")})
	late = submit(t, late, api.Change{Priority: 4, Files: files("a", "1", "b", "4")})
	if l := queue.Order(late, nil); !slices.Equal(l, []int{4, 1, 3, 2}) {
		t.Error("P58.1: Order", l)
	}
	// The next tree is built on the last one that is not red.
	deep := submit(t, submit(t, newQueue(t, files("a", "1", "b", "1"), 2), api.Change{Files: files("a", "2", "b", "1")}), api.Change{Files: files("a", "1", "b", "2")})
	deep = tell(t, deep, files("a", "2", "b", "1"), false)
	if l := queue.Needs(deep, nil); !same(l, [][]api.File{files("a", "1", "b", "2")}) {
		t.Error("P58.1: Needs", l)
	}
	deep, events = step(t, deep)
	if !same(events, []api.Event{{Kind: api.RefuseEvent, Change: 1}}) {
		t.Error("P58.1: refused by itself", events)
	}
}

func TestLand(t *testing.T) {
	q := newQueue(t, files("a", "1", "b", "1"), 1)
	q = submit(t, submit(t, q, api.Change{Author: "bob", Files: files("a", "2", "b", "1")}), api.Change{Files: files("a", "3", "b", "1")})
	q, e := queue.Land(q, 1)
	if e != api.OK || !same(queue.Trunk(valid(t, q)), files("a", "2", "b", "1")) || len(q.Answers) != 2 {
		t.Error("P58.1: Land", e)
	}
	for id, want := range map[int]api.Errno{1: api.ErrNotFound, 9: api.ErrNotFound, 0: api.ErrNotFound, 2: api.ErrConflict} {
		if x, e := queue.Land(q, id); e != want || !same(x, api.Queue{}) {
			t.Error("P58.1: Land", id, e)
		}
	}
	q = submit(t, q, api.Change{At: 1, Files: files("a", "2", "b", "7")})
	if x, e := queue.Land(tell(t, q, files("a", "2", "b", "7"), false), 3); e != api.ErrRed || !same(x, api.Queue{}) {
		t.Error("P58.1: Land", e)
	}
	q, _ = queue.Land(q, 3)
	back, id, e := queue.Rollback(q, 1)
	c := valid(t, back).Changes[3]
	if e != api.OK || id != 4 || c.Author != "bob" || c.Priority != 1000 || c.At != 2 || !same(c.Files, files("a", "1", "b", "7")) {
		t.Error("P58.1: Rollback", c, e)
	}
	if x, id, e := queue.Rollback(q, 2); e != api.ErrNotFound || id != 0 || !same(x, api.Queue{}) {
		t.Error("P58.1: Rollback", e)
	}
	q = submit(t, q, api.Change{At: 2, Files: files("a", "9", "b", "7")})
	q, _ = queue.Land(q, 4)
	if x, id, e := queue.Rollback(q, 1); e != api.ErrConflict || id != 0 || !same(x, api.Queue{}) {
		t.Error("P58.1: Rollback", e)
	}
}

func TestErrors(t *testing.T) {
	start := files("a", "1")
	for k, x := range []struct {
		l     []api.File
		depth int
		e     api.Errno
	}{{files("", ""), 0, api.ErrName}, {files("a.pk", "?"), 0, api.ErrSyntax}, {start, 0, api.ErrRange}, {start, 65, api.ErrRange}} {
		if q, e := queue.New(x.l, x.depth); e != x.e || !same(q, api.Queue{}) {
			t.Error("P58.1: New", k, e)
		}
	}
	q := newQueue(t, start, 64)
	full := q
	for range 64 {
		full, _, _ = queue.Submit(full, api.Change{Author: "ann", Files: start})
	}
	for k, x := range []struct {
		q api.Queue
		c api.Change
		e api.Errno
	}{
		{full, api.Change{Id: 1}, api.ErrArgument}, {full, api.Change{Arrived: 1}, api.ErrArgument}, {full, api.Change{}, api.ErrLimit}, {q, api.Change{Priority: -1}, api.ErrName}, {q, api.Change{Author: "a", Priority: -1}, api.ErrRange}, {q, api.Change{Author: "a", Priority: 1001}, api.ErrRange}, {q, api.Change{Author: "a", At: 1, Files: files("", "")}, api.ErrRange}, {q, api.Change{Author: "a", At: -1}, api.ErrRange}, {q, api.Change{Author: "a", Files: files("b", "", "a", "")}, api.ErrOrder}, {q, api.Change{Author: "a", Priority: 1000}, api.OK},
	} {
		if y, id, e := queue.Submit(x.q, x.c); e != x.e || e != api.OK && (id != 0 || !same(y, api.Queue{})) {
			t.Error("P58.1: Submit", k, e)
		}
	}
	if y, e := queue.Tell(q, files("", ""), true); e != api.ErrName || !same(y, api.Queue{}) {
		t.Error("P58.1: Tell", e)
	}
	if y, e := queue.Tell(q, start, false); e != api.ErrMismatch || !same(y, api.Queue{}) {
		t.Error("P58.1: Tell", e)
	}
	if y, e := queue.Tell(q, start, true); e != api.OK || !same(y, q) {
		t.Error("P58.1: Tell", e)
	}
	late := q
	late.Clock = 1 << 40
	if y, events, e := queue.Step(late, nil); e != api.ErrLimit || len(events) != 0 || !same(y, api.Queue{}) {
		t.Error("P58.1: Step", e)
	}
}

func TestCheck(t *testing.T) {
	q := newQueue(t, files("a", "1", "b", "1"), 2)
	q = submit(t, submit(t, submit(t, q, api.Change{Files: files("a", "2", "b", "1")}), api.Change{Files: files("a", "3", "b", "1")}), api.Change{Files: files("a", "1", "b", "2")})
	q, _ = queue.Land(q, 1)
	q = tell(t, q, files("a", "3", "b", "1"), true)
	q, _ = step(t, q)
	if len(q.Refused) != 1 || len(q.Pending) != 1 {
		t.Fatal("P58.1", q.Refused, q.Pending)
	}
	for k, x := range []struct {
		f func(q *api.Queue)
		e api.Errno
	}{
		{func(q *api.Queue) { q.Start = files("", ""); q.Depth = 0 }, api.ErrName}, {func(q *api.Queue) { q.Depth = 0 }, api.ErrRange}, {func(q *api.Queue) { q.Depth = 65 }, api.ErrRange}, {func(q *api.Queue) { q.Clock = -1 }, api.ErrRange}, {func(q *api.Queue) { q.Clock = 1<<40 + 1 }, api.ErrRange}, {func(q *api.Queue) { q.Changes = make([]api.Change, 65) }, api.ErrLimit}, {func(q *api.Queue) { q.Changes[1].Id = 3; q.Changes[1].Author = "" }, api.ErrMismatch}, {func(q *api.Queue) { q.Changes[1].Author = ""; q.Changes[1].At = -1 }, api.ErrName}, {func(q *api.Queue) { q.Changes[1].At = 2; q.Changes[1].Files = files("", "") }, api.ErrRange}, {func(q *api.Queue) { q.Changes[1].Arrived = 99 }, api.ErrRange}, {func(q *api.Queue) { q.Changes[1].Priority = 1001 }, api.ErrRange}, {func(q *api.Queue) { q.Changes[1].Files = files("", "") }, api.ErrName},
		{func(q *api.Queue) { q.Pending = nil }, api.ErrMismatch}, {func(q *api.Queue) { q.Pending = []int{3, 3} }, api.ErrMismatch}, {func(q *api.Queue) { q.Pending = []int{3, 1} }, api.ErrMismatch}, {func(q *api.Queue) { q.Pending = []int{3, 4} }, api.ErrMismatch}, {func(q *api.Queue) { q.Changes[0].At = 1 }, api.ErrMismatch}, {func(q *api.Queue) { q.Landed[0].Files = files("a", "2", "b", "2") }, api.ErrMismatch}, {func(q *api.Queue) { q.Refused[0].With = []int{3} }, api.ErrMismatch}, {func(q *api.Queue) { q.Refused[0].With = []int{1, 1} }, api.ErrMismatch}, {func(q *api.Queue) { q.Refused[0].With = nil }, api.OK}, {func(q *api.Queue) { q.Changes[1].At = 1 }, api.ErrMismatch},
		{func(q *api.Queue) { q.Answers = append(q.Answers, q.Answers[0]) }, api.ErrMismatch}, {func(q *api.Queue) { q.Answers = append(q.Answers, api.Answer{Files: files("", "")}) }, api.ErrMismatch}, {func(q *api.Queue) { q.Answers = q.Answers[1:] }, api.ErrMismatch}, {func(q *api.Queue) { q.Answers[1].Green = false }, api.ErrMismatch}, {func(q *api.Queue) {}, api.OK},
	} {
		y := q
		y.Changes, y.Landed, y.Refused, y.Answers = slices.Clone(q.Changes), slices.Clone(q.Landed), slices.Clone(q.Refused), slices.Clone(q.Answers)
		x.f(&y)
		if e := queue.Check(y); e != x.e {
			t.Error("P58.1: Check", k, e, x.e)
		}
		// Queues that are not valid must not make anything panic.
		queue.Needs(y, nil)
		queue.Step(y, nil)
		queue.Order(y, nil)
		queue.Rollback(y, 1)
		queue.Land(y, 3)
	}
}
