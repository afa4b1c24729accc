package place_test

import (
	"fmt"
	"math/rand"
	"slices"
	"strings"
	"testing"

	"cordwood/api"
	"cordwood/approval"
	"cordwood/build"
	"cordwood/place"
	"cordwood/queue"
	"cordwood/repo"
)

func same(a, b any) bool { return fmt.Sprintf("%v", a) == fmt.Sprintf("%v", b) }

func files(l ...string) []api.File {
	var f []api.File
	for i := 0; i < len(l); i += 2 {
		f = append(f, api.File{Path: l[i], Data: l[i+1]})
	}
	slices.SortFunc(f, func(a, b api.File) int { return strings.Compare(a.Path, b.Path) })
	return f
}

func honest(names ...string) []api.Worker {
	var l []api.Worker
	for _, s := range names {
		l = append(l, api.Worker{Name: s, Kind: api.HonestWorker, Param: 1})
	}
	return l
}

func newPlace(t *testing.T, l []api.File, workers []api.Worker, quorum int) api.Place {
	t.Helper()
	x, e := place.New(l, workers, quorum, 2)
	if e != api.OK {
		t.Fatal("P59.1: New", e)
	}
	return valid(t, x)
}

func valid(t *testing.T, x api.Place) api.Place {
	t.Helper()
	if e := place.Check(x); e != api.OK {
		t.Fatal("P59.7", e)
	}
	return x
}

// do processes an input that has a certain error.
func do(t *testing.T, x api.Place, a api.Act, want api.Errno) (api.Place, api.Outcome) {
	t.Helper()
	y, o := place.Do(x, a)
	if o.Err != want || o.Err != api.OK && a.Kind != api.TickInput && a.Kind != api.RunInput && (!same(y, x) || o.Id != 0 || len(o.Events) != 0) {
		t.Fatal("P59.1: Do", a.Kind, o.Err, want)
	}
	if !slices.Equal(y.Ledger.Records[:len(x.Ledger.Records)], x.Ledger.Records) {
		t.Error("P59.6: records never change")
	}
	return valid(t, y), o
}

const rules = "lib a ;"

func tree(body string) []api.File {
	return files("BUILD", rules, "a.pk", "pub let f @1 = "+body+" ;")
}

func submit(who, body string) api.Act {
	return api.Act{Kind: api.SubmitInput, Who: who, Files: tree(body)}
}

func TestExample(t *testing.T) {
	x := newPlace(t, tree("1"), honest("w"), 1)
	x, o := do(t, x, submit("ann", "2"), api.OK)
	if o.Id != 1 || !same(x.Ledger.Records, []api.Record{{Time: 0, Who: "ann", What: "submit", Data: "1"}}) {
		t.Error("P59.1", o)
	}
	x, o = do(t, x, api.Act{Kind: api.RunInput, Count: 10}, api.OK)
	if !same(o.Events, []api.Event{{Kind: api.LandEvent, Change: 1}}) || place.Trunk(x)[1].Data != "pub let f @1 = 2 ;\n" || x.Clock != 10 {
		t.Error("P59.1", o.Events)
	}
	if l, e := repo.Files(x.Repo, "trunk"); e != api.OK || !same(l, place.Trunk(x)) {
		t.Error("P59.3", e)
	}
	a := submit("bob", "(1 + true)")
	a.At = 1
	x, o = do(t, x, a, api.OK)
	x, o = do(t, x, api.Act{Kind: api.RunInput, Count: 20}, api.OK)
	if !same(o.Events, []api.Event{{Kind: api.RefuseEvent, Change: 2}}) {
		t.Error("P59.1", o.Events)
	}
	last := x.Ledger.Records[len(x.Ledger.Records)-1]
	if last.Who != "bob" || last.What != "refuse" || last.Data != "2" {
		t.Error("P59.6", last)
	}
	// Two changes of the same place: the second one is refused with the first one.
	a = submit("cid", "3")
	a.At = 1
	x, _ = do(t, x, a, api.OK)
	a = submit("dan", "4")
	a.At = 1
	x, _ = do(t, x, a, api.OK)
	x, o = do(t, x, api.Act{Kind: api.RunInput, Count: 60}, api.OK)
	if !same(o.Events, []api.Event{{Kind: api.LandEvent, Change: 3}, {Kind: api.RefuseEvent, Change: 4, With: []int{3}}}) {
		t.Error("P59.1", o.Events)
	}
	if last := x.Ledger.Records[len(x.Ledger.Records)-1]; last.Data != "4 3" || last.Who != "dan" {
		t.Error("P59.6", last)
	}
	x, o = do(t, x, api.Act{Kind: api.RollbackInput, Who: "eve", Change: 3}, api.OK)
	if o.Id != 5 || !same(o.Events, []api.Event{{Kind: api.RollbackEvent, Change: 3}}) || x.Ledger.Records[len(x.Ledger.Records)-1] != (api.Record{Time: 90, Who: "eve", What: "rollback", Data: "3"}) {
		t.Error("P59.1: rollback", o)
	}
	x, _ = do(t, x, api.Act{Kind: api.RunInput, Count: 20}, api.OK)
	if place.Trunk(x)[1].Data != "pub let f @1 = 2 ;\n" || place.Bound(x) != 0 {
		t.Error("P59.1: rollback", place.Trunk(x))
	}
}

func TestApproval(t *testing.T) {
	// The module is written as it is printed, so that only a change of it concerns its owner.
	start := files("BUILD", rules, "a.pk", "pub let f @1 = 1 ;\n", "OWNERS", "prefix a group olga ;", "b", "1")
	change := func(a, b string) []api.File {
		l := slices.Clone(start)
		for i := range l {
			if l[i].Path == "a.pk" {
				l[i].Data = "pub let f @1 = " + a + " ;\n"
			}
			if l[i].Path == "b" {
				l[i].Data = b
			}
		}
		return l
	}
	x := newPlace(t, start, honest("w"), 1)
	x, _ = do(t, x, api.Act{Kind: api.SubmitInput, Who: "ann", Files: change("2", "1")}, api.OK)
	x, _ = do(t, x, api.Act{Kind: api.SubmitInput, Who: "ann", Files: change("1", "2")}, api.OK)
	if l := place.Held(x); !slices.Equal(l, []int{1}) {
		t.Error("P59.1: Held", l)
	}
	x, o := do(t, x, api.Act{Kind: api.RunInput, Count: 30}, api.OK)
	if !same(o.Events, []api.Event{{Kind: api.LandEvent, Change: 2}}) {
		t.Error("P59.5", o.Events)
	}
	x, _ = do(t, x, api.Act{Kind: api.ApproveInput, Who: "bob", Change: 1}, api.OK)
	if len(place.Held(x)) != 1 {
		t.Error("P59.5: bob owns nothing")
	}
	x, o = do(t, x, api.Act{Kind: api.ApproveInput, Who: "olga", Change: 1}, api.OK)
	x, _ = do(t, x, api.Act{Kind: api.ApproveInput, Who: "olga", Change: 1}, api.OK)
	if o.Id != 1 || len(place.Held(x)) != 0 || len(x.Approvals) != 2 || x.Ledger.Records[len(x.Ledger.Records)-1].What != "approve" {
		t.Error("P59.1: approve", o, x.Approvals)
	}
	before := x
	x, o = do(t, x, api.Act{Kind: api.RunInput, Count: 30}, api.OK)
	if !same(o.Events, []api.Event{{Kind: api.LandEvent, Change: 1}}) {
		t.Error("P59.5", o.Events)
	}
	if m, e := approval.Missing(x.Approvals, 1, place.Trunk(before), place.Trunk(x)); e != api.OK || len(m) != 0 {
		t.Error("P59.5", m, e)
	}
	for k, y := range []struct {
		who string
		id  int
		e   api.Errno
	}{{"..", 1, api.ErrName}, {"olga", 1, api.ErrNotFound}, {"olga", 0, api.ErrNotFound}, {"olga", 9, api.ErrNotFound}} {
		if _, o := place.Do(x, api.Act{Kind: api.ApproveInput, Who: y.who, Change: y.id}); o.Err != y.e {
			t.Error("P59.1: approve", k, o.Err)
		}
	}
	x, _ = do(t, x, api.Act{Kind: api.SubmitInput, Who: "ann", Files: change("7", "1")}, api.OK)
	do(t, x, api.Act{Kind: api.ApproveInput, Who: "olga", Change: 3}, api.ErrConflict)
	if l := place.Held(x); len(l) != 0 {
		t.Error("P59.1: a change that conflicts is not held", l)
	}
}

// invariants checks what holds for all places that are reached.
func invariants(t *testing.T, x api.Place) {
	t.Helper()
	valid(t, x)
	if !build.Green(place.Trunk(x)) {
		t.Fatal("P59.2: the trunk is red")
	}
	count := map[string]int{}
	time := 0
	for _, r := range x.Ledger.Records {
		count[r.What]++
		if r.Time < time {
			t.Error("P59.6")
		}
		time = r.Time
	}
	if count["submit"]+count["rollback"] != len(x.Queue.Changes) || count["land"] != len(x.Queue.Landed) || count["refuse"] != len(x.Queue.Refused) {
		t.Error("P59.6", count)
	}
}

func TestCrashes(t *testing.T) {
	r := rand.New(rand.NewSource(1))
	x := newPlace(t, tree("1"), honest("w"), 1)
	x, _ = do(t, x, submit("ann", "2"), api.OK)
	for left := range 14 {
		y, _ := do(t, x, api.Act{Kind: api.PowerInput, Count: left}, api.OK)
		for range 12 {
			y, _ = place.Do(y, api.Act{Kind: api.TickInput})
			invariants(t, y)
		}
		landed := len(y.Queue.Landed)
		picks := make([]int, len(y.Repo.Disk.Pending))
		for i := range picks {
			picks[i] = r.Intn(514)
		}
		if left%2 == 0 {
			for i := range picks {
				picks[i] = 512
			}
		}
		if y.Repo.Disk.Left == 0 {
			do(t, y, api.Act{Kind: api.PowerInput, Count: 5}, api.ErrState)
			_, o := place.Do(y, api.Act{Kind: api.TickInput})
			if o.Err != api.ErrLost || len(o.Events) != 0 {
				t.Error("P59.1: lost", o)
			}
		}
		y, o := do(t, y, api.Act{Kind: api.CutInput, Picks: picks}, api.OK)
		invariants(t, y)
		if len(y.Queue.Landed) != landed+len(o.Events) {
			t.Error("P59.3", left, o)
		}
		if l, e := repo.Files(y.Repo, "trunk"); e != api.OK || !same(l, place.Trunk(y)) {
			t.Error("P59.3", e)
		}
		y, _ = do(t, y, api.Act{Kind: api.RunInput, Count: 12}, api.OK)
		if len(y.Queue.Landed) != 1 {
			t.Error("P59.4: after the loss of power", left)
		}
	}
}

func TestRandom(t *testing.T) {
	r := rand.New(rand.NewSource(2))
	rules := "lib a ; test t deps a ;"
	random := func() []api.File {
		return files("BUILD", rules, "OWNERS", "prefix n group olga ;", "a.pk", fmt.Sprintf("pub let f @1 = %s ;", []string{"1", "2", "(1 + 1)", "true"}[r.Intn(4)]), "n", fmt.Sprint(r.Intn(3)), "t.pk", fmt.Sprintf("use a ; test good @1 = (a.f = %d) ;", 1+r.Intn(2)))
	}
	start := files("BUILD", rules, "OWNERS", "prefix n group olga ;", "a.pk", "pub let f @1 = 1 ;", "n", "0", "t.pk", "use a ; test good @1 = (a.f = 1) ;")
	for round := range 6 {
		workers := honest("a", "b", "c")
		x := newPlace(t, start, workers, 2)
		for range 50 {
			a := api.Act{Kind: 1 + r.Intn(8)}
			switch a.Kind {
			case api.SubmitInput:
				a.Who, a.Priority, a.At, a.Files = "ann", r.Intn(3), r.Intn(len(x.Queue.Landed)+1), random()
				if len(x.Queue.Changes) > 8 {
					continue
				}
			case api.ApproveInput, api.RollbackInput:
				a.Who, a.Change = "olga", r.Intn(5)
				if len(x.Queue.Changes) > 8 && a.Kind == api.RollbackInput {
					continue
				}
			case api.CutInput:
				a.Picks = []int{r.Intn(600), r.Intn(600), 512, r.Intn(600)}
			case api.PowerInput:
				a.Count = r.Intn(9)
			case api.WorkerInput:
				a.Who, a.Count, a.At = "c", 1+r.Intn(4), r.Intn(3)
			case api.RunInput:
				a.Count = r.Intn(20)
			}
			y, o := place.Do(x, a)
			if o.Err == api.OK {
				z, l := place.Run(x, []api.Act{a, a})
				w, p := place.Do(y, a)
				if !same(z, w) || !same(l, []api.Outcome{o, p}) {
					t.Error("P59.1: Run")
				}
			}
			x = y
			invariants(t, x)
		}
		x, _ = place.Do(x, api.Act{Kind: api.CutInput})
		x, _ = place.Do(x, api.Act{Kind: api.WorkerInput, Who: "c", Count: api.LostWorker})
		invariants(t, x)
		for bound := place.Bound(x); bound > 0; bound -= 1000 {
			x, _ = place.Do(x, api.Act{Kind: api.RunInput, Count: min(bound, 1000)})
			if len(x.Queue.Pending) == len(place.Held(x)) {
				break
			}
		}
		invariants(t, x)
		if !slices.Equal(place.Held(x), x.Queue.Pending) {
			t.Error("P59.4", round, place.Held(x), x.Queue.Pending)
		}
	}
}

func TestCollect(t *testing.T) {
	// The journal fills up with the objects of landings; then what no ref reaches is left out, or the landing fails.
	l := files("BUILD", rules, "a.pk", "pub let f @1 = 1 ;", "big", "")
	x := newPlace(t, l, honest("w"), 1)
	for i := range 6 {
		on := slices.Clone(place.Trunk(x))
		on[2].Data = strings.Repeat(fmt.Sprint(i), 20000)
		x, _ = do(t, x, api.Act{Kind: api.SubmitInput, Who: "ann", At: len(x.Queue.Landed), Files: on}, api.OK)
		before := len(x.Queue.Landed)
		var o api.Outcome
		x, o = place.Do(x, api.Act{Kind: api.RunInput, Count: 10})
		valid(t, x)
		if len(x.Queue.Landed) == before && o.Err != api.ErrFull {
			t.Error("P59.1: no room", o)
		}
		if o.Err == api.ErrFull && (x.Clock != 10*(i+1) || len(x.Queue.Pending) != 1) {
			t.Error("P59.1: no room", o, x.Clock)
		}
		if o.Err == api.ErrFull {
			return
		}
	}
	t.Error("P59.1: there is no end")
}

func TestErrors(t *testing.T) {
	for k, y := range []struct {
		l       []api.File
		workers []api.Worker
		quorum  int
		depth   int
		e       api.Errno
	}{{files("", ""), nil, 0, 0, api.ErrName}, {tree("1"), nil, 0, 0, api.ErrRange}, {tree("nope"), nil, 0, 1, api.ErrScope}, {tree("(1 + true)"), nil, 0, 1, api.ErrLimit}, {tree("(1 + true)"), honest("w"), 2, 1, api.ErrRange}, {tree("(1 + true)"), honest("w"), 1, 1, api.ErrRed}, {files("big", strings.Repeat("x", 65532), "more", strings.Repeat("y", 65532)), honest("w"), 1, 1, api.ErrFull}} {
		if x, e := place.New(y.l, y.workers, y.quorum, y.depth); e != y.e || !same(x, api.Place{}) {
			t.Error("P59.1: New", k, e)
		}
	}
	x := newPlace(t, tree("1"), honest("w"), 1)
	late := x
	late.Clock = 1 << 40
	full := x
	full.Ledger.Records = slices.Repeat([]api.Record{{Who: "a", What: "b"}}, 10000)
	nearly := x
	nearly.Ledger.Records = full.Ledger.Records[:9999]
	for k, y := range []struct {
		x api.Place
		a api.Act
		e api.Errno
	}{
		{full, api.Act{}, api.ErrKind}, {x, api.Act{Kind: 9}, api.ErrKind}, {full, api.Act{Kind: api.TickInput}, api.ErrFull}, {full, api.Act{Kind: api.PowerInput, Count: -1}, api.ErrFull}, {x, api.Act{Kind: api.SubmitInput}, api.ErrName}, {x, api.Act{Kind: api.SubmitInput, Who: "ann", At: 1}, api.ErrRange}, {x, api.Act{Kind: api.SubmitInput, Who: "ann", Files: files("a.pk", "?")}, api.ErrSyntax}, {late, api.Act{Kind: api.TickInput}, api.ErrLimit}, {late, api.Act{Kind: api.RunInput, Count: 3}, api.ErrLimit},
		{x, api.Act{Kind: api.PowerInput, Count: -1}, api.ErrRange}, {x, api.Act{Kind: api.WorkerInput, Who: "z", Count: 9}, api.ErrNotFound}, {x, api.Act{Kind: api.WorkerInput, Who: "w", Count: 9}, api.ErrKind}, {x, api.Act{Kind: api.WorkerInput, Who: "w", Count: 1, At: 0}, api.ErrRange}, {x, api.Act{Kind: api.RollbackInput, Change: 1}, api.ErrName}, {x, api.Act{Kind: api.RollbackInput, Who: "a", Change: 1}, api.ErrNotFound}, {x, api.Act{Kind: api.RunInput, Count: -1}, api.ErrRange}, {x, api.Act{Kind: api.RunInput, Count: 1001}, api.ErrRange}, {x, api.Act{Kind: api.RunInput, Count: 1000}, api.OK},
	} {
		z, o := place.Do(y.x, y.a)
		if o.Err != y.e || o.Err != api.OK && !same(z, y.x) {
			t.Error("P59.1: Do", k, o.Err)
		}
	}
	nearly, _ = place.Do(nearly, submit("ann", "2"))
	if y, o := place.Do(nearly, api.Act{Kind: api.RunInput, Count: 5}); o.Err != api.ErrFull || !same(y, nearly) {
		t.Error("P59.1: the ledger is full", o)
	}
}

func TestCheck(t *testing.T) {
	x := newPlace(t, tree("1"), honest("w"), 1)
	x, _ = do(t, x, submit("ann", "2"), api.OK)
	for k, y := range []struct {
		f func(x *api.Place)
		e api.Errno
	}{
		{func(x *api.Place) { x.Repo.Pool = nil; x.Queue.Depth = 0 }, api.ErrMismatch}, {func(x *api.Place) { x.Repo.Pool = nil; x.Repo.Disk.Left = 0 }, api.OK}, {func(x *api.Place) { x.Repo.Disk = api.Disk{} }, api.ErrRange}, {func(x *api.Place) { x.Queue.Depth = 0; x.Farm.Quorum = 0 }, api.ErrRange}, {func(x *api.Place) { x.Farm.Quorum = 0 }, api.ErrRange}, {func(x *api.Place) { x.Cache = make([]api.CacheEntry, 1) }, api.ErrKind}, {func(x *api.Place) { x.Approvals = []api.Approval{{Change: 5}} }, api.ErrName}, {func(x *api.Place) { x.Approvals = []api.Approval{{Who: "a", Change: 2}} }, api.ErrNotFound}, {func(x *api.Place) { x.Approvals = []api.Approval{{Who: "a", Change: 1}} }, api.OK}, {func(x *api.Place) { x.Ledger.Records = make([]api.Record, 1) }, api.ErrArgument}, {func(x *api.Place) { x.Clock = -1 }, api.ErrRange}, {func(x *api.Place) { x.Clock = 1<<40 + 1 }, api.ErrRange}, {func(x *api.Place) { x.Queue, _ = queue.New(tree("3"), 1) }, api.ErrMismatch},
	} {
		z := x
		y.f(&z)
		if e := place.Check(z); e != y.e {
			t.Error("P59.1: Check", k, e)
		}
	}
	// The start and one change have 1 semicolon each, and the change has 0 landings behind it.
	if n := place.Bound(x); n != 1+10*1+(1+2*1)*(63*2+1) {
		t.Error("P59.1: Bound", n)
	}
	many := x
	for i := range 5 {
		many, _ = do(t, many, submit("ann", fmt.Sprint(i+5)), api.OK)
	}
	if n := place.Bound(many); n != 6+10+6*(1+2*36)*(63*7+1) {
		t.Error("P59.1: Bound", n)
	}
}
