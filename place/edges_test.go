package place_test

import (
	"fmt"
	"strings"
	"testing"

	"cordwood/api"
	"cordwood/place"
	"cordwood/pool"
	"cordwood/refs"
	"cordwood/repo"
)

func TestTicks(t *testing.T) {
	x := newPlace(t, tree("1"), honest("w"), 1)
	y, o := do(t, x, api.Act{Kind: api.TickInput}, api.OK)
	if y.Farm.Leases.Clock != 1 || y.Clock != 1 || y.Queue.Clock != 1 || len(o.Events) != 0 {
		t.Error("P59.1: a tick without anything to build", y.Clock, y.Farm.Leases.Clock)
	}
	y, _ = do(t, y, api.Act{Kind: api.RunInput}, api.OK)
	if y.Clock != 1 {
		t.Error("P59.1: no ticks", y.Clock)
	}
	y, _ = do(t, y, submit("ann", "2"), api.OK)
	y, _ = do(t, y, api.Act{Kind: api.PowerInput}, api.OK)
	z, o := do(t, y, api.Act{Kind: api.TickInput}, api.ErrLost)
	if z.Clock != 2 || z.Farm.Leases.Clock != 2 || len(z.Farm.Jobs) != 1 || z.Queue.Clock != y.Queue.Clock || len(o.Events) != 0 {
		t.Error("P59.1: the farm works on without the disk", z.Clock, z.Farm.Leases.Clock)
	}
	z, _ = do(t, z, api.Act{Kind: api.RunInput, Count: 5}, api.ErrLost)
	if z.Clock != 7 || len(z.Queue.Answers) != 2 || len(z.Queue.Pending) != 1 {
		t.Error("P59.1: the farm works on without the disk", z.Clock, len(z.Queue.Answers))
	}
	late := x
	late.Clock, late.Queue.Clock = api.MaxInt, api.MaxInt
	if e := place.Check(late); e != api.OK {
		t.Error("P59.1: Check", e)
	}
	late.Clock = 5
	if z, o := place.Do(late, api.Act{Kind: api.TickInput}); o.Err != api.ErrLimit || z.Clock != 6 || z.Farm.Leases.Clock != 1 {
		t.Error("P59.1: the error of the queue", o.Err, z.Clock)
	}
	slow := x
	slow.Farm.Leases.Clock = api.MaxInt
	if z, o := place.Do(slow, api.Act{Kind: api.TickInput}); o.Err != api.ErrRange || z.Clock != 1 || z.Queue.Clock != 0 {
		t.Error("P59.1: the error of the farm", o.Err, z.Clock)
	}
}

func TestApprovals(t *testing.T) {
	start := files("OWNERS", "all group ann bob ;", "x", "1")
	x := newPlace(t, start, honest("w"), 1)
	for _, s := range []string{"2", "3"} {
		x, _ = do(t, x, api.Act{Kind: api.SubmitInput, Who: "eve", Files: files("OWNERS", "all group ann bob ;", "x", s)}, api.OK)
	}
	for _, a := range []api.Act{{Who: "ann", Change: 1}, {Who: "bob", Change: 1}, {Who: "ann", Change: 2}, {Who: "ann", Change: 1}} {
		a.Kind = api.ApproveInput
		x, _ = do(t, x, a, api.OK)
	}
	s := ""
	for _, a := range x.Approvals {
		s += fmt.Sprint(a.Who, a.Change, " ")
	}
	if s != "bob1 ann2 ann1 " {
		t.Error("P59.1: approvals", s)
	}
}

// junk fills the journal of a place with objects that no ref reaches, until nothing more has room.
func junk(t *testing.T, x api.Place) api.Place {
	t.Helper()
	for i, size := 0, 20000; size > 0; i++ {
		p, _, _ := pool.Put(nil, api.Object{Kind: api.BlobObject, Data: strings.Repeat(fmt.Sprint(i%10), size) + fmt.Sprint(i)})
		r, e := repo.Write(x.Repo, p, nil)
		if e != api.OK {
			size /= 2
			continue
		}
		x.Repo = r
	}
	return x
}

func TestCollecting(t *testing.T) {
	x := newPlace(t, tree("1"), honest("w"), 1)
	x, _ = do(t, x, submit("ann", "2"), api.OK)
	x = valid(t, junk(t, x))
	y, o := do(t, x, api.Act{Kind: api.RunInput, Count: 10}, api.OK)
	if len(o.Events) != 1 || len(y.Repo.Pool) >= len(x.Repo.Pool) {
		t.Error("P59.1: what no ref reaches makes room", o.Events)
	}
	// Power is lost while room is made, and while the landing is committed.
	for left := 1; ; left++ {
		z := x
		z.Repo.Disk.Left = left
		z, o = place.Do(z, api.Act{Kind: api.RunInput, Count: 10})
		invariants(t, z)
		z, _ = do(t, z, api.Act{Kind: api.CutInput, Picks: []int{512, 512, 512, 3, 512}}, api.OK)
		z, _ = do(t, z, api.Act{Kind: api.RunInput, Count: 10}, api.OK)
		if invariants(t, z); len(z.Queue.Landed) != 1 {
			t.Error("P59.3", left)
		}
		if o.Err == api.OK {
			return
		}
	}
}

func TestForeignCommit(t *testing.T) {
	x := newPlace(t, tree("1"), honest("w"), 1)
	x, _ = do(t, x, submit("ann", "2"), api.OK)
	for k, message := range []string{"no number", "7", "1", ""} {
		y := x
		y.Repo, _, _ = repo.Commit(x.Repo, "trunk", tree("77"), "eve", message, 5)
		if z, o := place.Do(y, api.Act{Kind: api.CutInput}); o.Err != api.ErrMismatch || !same(z, y) {
			t.Error("P59.1: cut", k, o.Err)
		}
		if e := place.Check(y); e != api.ErrMismatch {
			t.Error("P59.1: Check", e)
		}
	}
	y := x
	d, _ := refs.Get(x.Repo.Refs, "trunk")
	y.Repo, _ = repo.Write(x.Repo, nil, []api.RefUpdate{{Name: "trunk", Old: d}})
	if _, o := place.Do(y, api.Act{Kind: api.CutInput}); o.Err != api.ErrMismatch {
		t.Error("P59.1: cut without the ref", o.Err)
	}
	broken := x
	broken.Repo.Disk = api.Disk{Size: 1, Sectors: []string{"x", "x", "x"}, Left: -1}
	if _, o := place.Do(broken, api.Act{Kind: api.CutInput}); o.Err != api.ErrDecode {
		t.Error("P59.1: cut of another disk", o.Err)
	}
}

func TestBound(t *testing.T) {
	start := files("BUILD", "lib a ;", "a.pk", "pub let f @1 = 1 ;\n", "d/BUILD", "lib b ; lib c ;", "d/b.pk", "", "d/c.pk", "", "notBUILD", ";;;", "x", ";")
	x := newPlace(t, start, honest("w"), 1)
	// One tree has three semicolons in its build files.
	for landings := range 5 {
		on := place.Trunk(x)
		c := append([]api.File{}, on...)
		c[len(c)-1].Data = fmt.Sprint(landings)
		y, _ := do(t, x, api.Act{Kind: api.SubmitInput, Who: "ann", Files: c}, api.OK)
		n := landings + 1
		trees := 1 + landings + (landings + 1)
		want := 1 + 10*(1+openJobs(y)) + (1+2*(1<<n-1))*(63*3*trees+1)
		if b := place.Bound(y); b != want {
			t.Error("P59.1: Bound", landings, b, want)
		}
		x, _ = do(t, x, api.Act{Kind: api.SubmitInput, Who: "ann", At: landings, Files: c}, api.OK)
		if b := place.Bound(x); b != 1+10*(1+openJobs(x))+(1+2*1)*(63*3*trees+1) {
			t.Error("P59.1: Bound", landings, b)
		}
		x, _ = do(t, x, api.Act{Kind: api.RunInput, Count: 20}, api.OK)
		if len(x.Queue.Landed) != landings+1 {
			t.Fatal("P59.4", landings)
		}
	}
	y, _ := do(t, x, api.Act{Kind: api.SubmitInput, Who: "ann", Files: start}, api.OK)
	if b := place.Bound(y); b != 1+10+(1+2*36)*(63*3*12+1) {
		t.Error("P59.1: Bound", b)
	}
}

func openJobs(x api.Place) int {
	n := 0
	for _, j := range x.Farm.Jobs {
		if !j.Done {
			n++
		}
	}
	return n
}

func TestNew(t *testing.T) {
	x := newPlace(t, tree("1"), honest("w"), 1)
	d, _ := refs.Get(x.Repo.Refs, "trunk")
	c, e := pool.Get(x.Repo.Pool, d)
	if e != api.OK || c.Author != "place" || c.Message != "0" || c.Time != 0 || len(c.Parents) != 0 || len(x.Repo.Disk.Sectors) != 300 || x.Repo.Disk.Size != 512 {
		t.Error("P59.1: New", c, e)
	}
	if x.Farm.Length != 10 || x.Farm.Quorum != 1 || x.Queue.Depth != 2 || x.Clock != 0 || len(x.Cache)+len(x.Approvals)+len(x.Ledger.Records) != 0 {
		t.Error("P59.1: New", x.Farm)
	}
	x, _ = do(t, x, submit("ann", "2"), api.OK)
	x, _ = do(t, x, api.Act{Kind: api.RunInput, Count: 10}, api.OK)
	d, _ = refs.Get(x.Repo.Refs, "trunk")
	if c, _ := pool.Get(x.Repo.Pool, d); c.Author != "ann" || c.Message != "1" || c.Time != x.Ledger.Records[1].Time || len(c.Parents) != 1 {
		t.Error("P59.1: a commit of a landing", c)
	}
}

func TestHeldBehindConflict(t *testing.T) {
	start := files("OWNERS", "prefix b group ann ;", "a", "1", "b", "1")
	x := newPlace(t, start, honest("w"), 1)
	for _, l := range [][]api.File{files("OWNERS", "prefix b group ann ;", "a", "2", "b", "1"), files("OWNERS", "prefix b group ann ;", "a", "3", "b", "1"), files("OWNERS", "prefix b group ann ;", "a", "1", "b", "2")} {
		x, _ = do(t, x, api.Act{Kind: api.SubmitInput, Who: "eve", Files: l}, api.OK)
	}
	for len(x.Queue.Landed) == 0 {
		x, _ = do(t, x, api.Act{Kind: api.TickInput}, api.OK)
	}
	if l := place.Held(x); len(l) != 1 || l[0] != 3 {
		t.Error("P59.1: Held", l)
	}
}

func TestFullLedger(t *testing.T) {
	x := newPlace(t, tree("1"), honest("w"), 1)
	for range 9998 {
		x.Ledger.Records = append(x.Ledger.Records, api.Record{Who: "a", What: "b"})
	}
	x, _ = place.Do(x, submit("ann", "2"))
	y, o := place.Do(x, api.Act{Kind: api.RunInput, Count: 10})
	if o.Err != api.ErrFull || len(o.Events) != 1 || len(y.Ledger.Records) != 10000 || y.Clock == 0 || y.Clock >= 10 {
		t.Error("P59.1: the ledger fills up", o, y.Clock)
	}
}

func TestLostCommit(t *testing.T) {
	x := newPlace(t, tree("1"), honest("w"), 1)
	x, _ = do(t, x, submit("ann", "2"), api.OK)
	x, _ = do(t, x, api.Act{Kind: api.PowerInput, Count: 2}, api.OK)
	for {
		y, o := place.Do(x, api.Act{Kind: api.TickInput})
		if o.Err != api.OK {
			if o.Err != api.ErrLost || y.Repo.Disk.Left != 0 || len(y.Repo.Disk.Pending) == 0 || len(y.Queue.Pending) != 1 || len(o.Events) != 0 || y.Queue.Clock != x.Queue.Clock {
				t.Error("P59.1: the disk as it is then", o, y.Repo.Disk.Left)
			}
			return
		}
		x = y
	}
}
