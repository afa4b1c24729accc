package place

import (
	"slices"
	"strconv"

	"cordwood/api"
	"cordwood/approval"
	"cordwood/disk"
	"cordwood/farm"
	"cordwood/history"
	"cordwood/ledger"
	"cordwood/names"
	"cordwood/queue"
	"cordwood/refs"
	"cordwood/remote"
	"cordwood/repo"
	"cordwood/worker"
)

// doing is a place during an input, and the outcome of this.
type doing struct {
	api.Place
	out api.Outcome
}

// kinds returns the methods that process the kinds of inputs.
func kinds() map[int]func(*doing, api.Act) api.Errno {
	return map[int]func(*doing, api.Act) api.Errno{
		api.SubmitInput:   (*doing).submit,
		api.ApproveInput:  (*doing).approve,
		api.TickInput:     (*doing).tickOnce,
		api.CutInput:      (*doing).cut,
		api.PowerInput:    (*doing).power,
		api.WorkerInput:   (*doing).worker,
		api.RollbackInput: (*doing).rollback,
		api.RunInput:      (*doing).run,
	}
}

// Do processes an input.
func Do(x api.Place, a api.Act) (api.Place, api.Outcome) {
	process, ok := kinds()[a.Kind]
	if !ok {
		return x, api.Outcome{Err: api.ErrKind}
	}
	if full(x) {
		return x, api.Outcome{Err: api.ErrFull}
	}
	d := &doing{Place: x}
	d.out.Err = process(d, a)
	ticks := a.Kind == api.TickInput || a.Kind == api.RunInput
	if d.out.Err != api.OK && !ticks {
		return x, api.Outcome{Err: d.out.Err}
	}
	return d.Place, d.out
}

func full(x api.Place) bool { return len(x.Ledger.Records) >= maxRecords }

// record adds a record to the ledger.
func (d *doing) record(who, what, data string) {
	l, e := ledger.Append(d.Ledger, api.Record{Time: d.Clock, Who: who, What: what, Data: data})
	if e == api.OK {
		d.Ledger = l
	}
}

// recordEvent adds the record of a landing or a refusal.
func (d *doing) recordEvent(x api.Event) {
	what, data := "land", number(x.Change)
	if x.Kind == api.RefuseEvent {
		what = "refuse"
	}
	for _, id := range x.With {
		data += " " + number(id)
	}
	d.record(change(d.Place, x.Change).Author, what, data)
}

func (d *doing) submit(a api.Act) api.Errno {
	q, id, e := queue.Submit(d.Queue, api.Change{Author: a.Who, Priority: a.Priority, At: a.At, Files: a.Files})
	if e != api.OK {
		return e
	}
	d.Queue, d.out.Id = q, id
	d.record(a.Who, "submit", number(id))
	return api.OK
}

func (d *doing) approve(a api.Act) api.Errno {
	if !names.Name(a.Who) {
		return api.ErrName
	}
	if !slices.Contains(d.Queue.Pending, a.Change) {
		return api.ErrNotFound
	}
	files, ok := result(d.Place, a.Change)
	if !ok {
		return api.ErrConflict
	}
	saw, e := approval.Saw(Trunk(d.Place), files, a.Who)
	if e != api.OK {
		return e
	}
	d.Approvals = append(slices.DeleteFunc(slices.Clone(d.Approvals), func(x api.Approval) bool {
		return x.Change == a.Change && x.Who == a.Who
	}), api.Approval{Who: a.Who, Change: a.Change, Saw: saw})
	d.out.Id = a.Change
	d.record(a.Who, "approve", number(a.Change))
	return api.OK
}

func (d *doing) tickOnce(api.Act) api.Errno { return d.tick() }

func (d *doing) run(a api.Act) api.Errno {
	if a.Count < 0 || a.Count > maxTicks {
		return api.ErrRange
	}
	first := api.OK
	for range a.Count {
		e := api.ErrFull
		if !full(d.Place) {
			e = d.tick()
		}
		if first == api.OK {
			first = e
		}
	}
	return first
}

// tick lets one unit of time pass.
func (d *doing) tick() api.Errno {
	if d.Clock >= api.MaxInt {
		return api.ErrLimit
	}
	d.Clock++
	held := Held(d.Place)
	if e := d.work(held); e != api.OK {
		return e
	}
	if lost(d.Place) {
		return api.ErrLost
	}
	return d.decide(held)
}

// work lets the farm build the first tree about which the queue must be told.
func (d *doing) work(held []int) api.Errno {
	needs := queue.Needs(d.Queue, held)
	if len(needs) == 0 {
		f, _, e := farm.Tick(d.Farm)
		if e == api.OK {
			d.Farm = f
		}
		return e
	}
	f, c, report, finished, e := remote.Step(d.Farm, d.Cache, needs[0])
	if e != api.OK {
		return e
	}
	d.Farm, d.Cache = f, c
	if !finished {
		return api.OK
	}
	q, e := queue.Tell(d.Queue, needs[0], isGreen(report))
	if e == api.OK {
		d.Queue = q
	}
	return e
}

// isGreen reports whether the tree of a report is green.
func isGreen(r api.Report) bool {
	return r.Err == api.OK && !slices.ContainsFunc(r.Targets, func(s api.Status) bool { return !s.Ok })
}

// decide lands or refuses a change, if it is known which.
func (d *doing) decide(held []int) api.Errno {
	q, events, e := queue.Step(d.Queue, held)
	if e != api.OK {
		return e
	}
	for _, x := range events {
		if x.Kind == api.LandEvent {
			if e := d.commit(x.Change, queue.Trunk(q)); e != api.OK {
				return e
			}
		}
	}
	d.Queue = q
	for _, x := range events {
		d.recordEvent(x)
	}
	d.out.Events = slices.Concat(d.out.Events, events)
	return api.OK
}

// commit commits a landing.
func (d *doing) commit(id int, files []api.File) api.Errno {
	commit := func(r api.Repo) (api.Repo, api.Errno) {
		r, _, e := repo.Commit(r, trunk, files, change(d.Place, id).Author, number(id), d.Clock)
		return r, e
	}
	r, e := commit(d.Repo)
	if e == api.ErrFull {
		if r, _, e = repo.Collect(d.Repo); e == api.OK {
			r, e = commit(r)
		}
	}
	if e == api.OK || e == api.ErrLost {
		d.Repo = r
	}
	return e
}

func (d *doing) cut(a api.Act) api.Errno {
	r, e := repo.Open(disk.Cut(d.Repo.Disk, a.Picks))
	if e != api.OK {
		return e
	}
	if !onTrunk(r, d.Queue) {
		if e := d.landCommitted(r); e != api.OK {
			return e
		}
	}
	d.Repo = r
	return api.OK
}

// landCommitted lands the change whose result had been committed when the disk lost power.
func (d *doing) landCommitted(r api.Repo) api.Errno {
	head, _ := refs.Get(r.Refs, trunk)
	c, e := history.Commit(r.Pool, head)
	id, err := strconv.Atoi(c.Message)
	if e != api.OK || err != nil {
		return api.ErrMismatch
	}
	q, e := queue.Land(d.Queue, id)
	if e != api.OK || !onTrunk(r, q) {
		return api.ErrMismatch
	}
	x := api.Event{Kind: api.LandEvent, Change: id}
	d.Queue = q
	d.out.Events = []api.Event{x}
	d.recordEvent(x)
	return api.OK
}

func (d *doing) power(a api.Act) api.Errno {
	if a.Count < 0 {
		return api.ErrRange
	}
	if lost(d.Place) {
		return api.ErrState
	}
	d.Repo.Disk.Left = a.Count
	return api.OK
}

func (d *doing) worker(a api.Act) api.Errno {
	i := slices.IndexFunc(d.Farm.Workers, func(w api.Worker) bool { return w.Name == a.Who })
	if i < 0 {
		return api.ErrNotFound
	}
	w := api.Worker{Name: a.Who, Kind: a.Count, Param: a.At}
	if e := worker.Check(w); e != api.OK {
		return e
	}
	d.Farm.Workers = slices.Clone(d.Farm.Workers)
	d.Farm.Workers[i] = w
	return api.OK
}

func (d *doing) rollback(a api.Act) api.Errno {
	if !names.Name(a.Who) {
		return api.ErrName
	}
	q, id, e := queue.Rollback(d.Queue, a.Change)
	if e != api.OK {
		return e
	}
	d.Queue, d.out.Id = q, id
	d.out.Events = []api.Event{{Kind: api.RollbackEvent, Change: a.Change}}
	d.record(a.Who, "rollback", number(a.Change))
	return api.OK
}
