package queue

import (
	"iter"
	"slices"
	"strconv"
	"strings"

	"cordwood/api"
	"cordwood/minimal"
	"cordwood/tree"
)

// speculation yields the results of the first changes in the order, each on the tree to which those before it have led.
func speculation(q api.Queue, order []int) iter.Seq[[]api.File] {
	return func(yield func([]api.File) bool) {
		on := Trunk(q)
		for _, id := range order[:min(max(q.Depth, 0), len(order))] {
			files, ok := result(q, change(q, id), on)
			if !ok {
				continue
			}
			if !yield(files) {
				return
			}
			if colorOf(q, files) != redTree {
				on = files
			}
		}
	}
}

// refused reports whether a change conflicts with the trunk, or its result on it is red.
func refused(q api.Queue, c api.Change) bool {
	files, ok := result(q, c, Trunk(q))
	return !ok || colorOf(q, files) == redTree
}

// built is a tree, unless there is a conflict on the way to it.
type built struct {
	files []api.File
	ok    bool
}

// refusing is the search for the landings with which a change does not go.
type refusing struct {
	q      api.Queue
	change api.Change
	trees  map[string]built
	// needed says that the answer about a tree is missing.
	needed bool
	tree   []api.File
	with   []int
}

func newRefusing(q api.Queue, c api.Change) *refusing {
	return &refusing{q: q, change: c, trees: map[string]built{}}
}

// landing returns the landing with a number from the At of the change on.
func (r *refusing) landing(n int) api.Landing {
	if i := r.change.At + n; i >= 0 && i < len(r.q.Landed) {
		return r.q.Landed[i]
	}
	return api.Landing{}
}

// treeOf returns the tree of a set of landings.
func (r *refusing) treeOf(set []int) built {
	if len(set) == 0 {
		files, e := Past(r.q, r.change.At)
		return built{files, e == api.OK}
	}
	var key strings.Builder
	for _, n := range set {
		key.WriteString(strconv.Itoa(n) + " ")
	}
	if b, ok := r.trees[key.String()]; ok {
		return b
	}
	last := len(set) - 1
	b := r.treeOf(set[:last])
	if b.ok {
		b.files, b.ok = result(r.q, change(r.q, r.landing(set[last]).Change), b.files)
	}
	r.trees[key.String()] = b
	return b
}

// need remembers that the answer about a tree is missing.
func (r *refusing) need(files []api.File) { r.needed, r.tree = true, files }

// bad reports whether a set is bad, unless an answer is needed for that.
func (r *refusing) bad(set []int) bool {
	b := r.treeOf(set)
	if !b.ok {
		return false
	}
	switch colorOf(r.q, b.files) {
	case redTree:
		return false
	case unknownTree:
		r.need(b.files)
		return false
	}
	files, ok := result(r.q, r.change, b.files)
	if !ok {
		return true
	}
	switch colorOf(r.q, files) {
	case redTree:
		return true
	case unknownTree:
		r.need(files)
	}
	return false
}

// search searches a smallest bad set, until it is found or an answer is needed.
func (r *refusing) search() *refusing {
	s, _ := minimal.Start(max(len(r.q.Landed)-r.change.At, 0))
	for {
		set, ok := minimal.Next(s)
		if !ok {
			break
		}
		bad := r.bad(set)
		if r.needed {
			return r
		}
		s, _ = minimal.Tell(s, set, bad)
	}
	found, _ := minimal.Result(s)
	for _, n := range found {
		r.with = append(r.with, r.landing(n).Change)
	}
	return r
}

// checkChange returns why the change with an index is not valid.
func checkChange(q api.Queue, i int) api.Errno {
	c := q.Changes[i]
	if c.Id != i+1 {
		return api.ErrMismatch
	}
	if e := checkHead(q, c); e != api.OK {
		return e
	}
	return loads(c.Files)
}

// Check returns why a queue is not valid.
func Check(q api.Queue) api.Errno {
	if e := loads(q.Start); e != api.OK {
		return e
	}
	if q.Depth < 1 || q.Depth > api.MaxChanges || q.Clock < 0 || q.Clock > api.MaxInt {
		return api.ErrRange
	}
	if len(q.Changes) > api.MaxChanges {
		return api.ErrLimit
	}
	for i := range q.Changes {
		if e := checkChange(q, i); e != api.OK {
			return e
		}
	}
	for _, holds := range []func(api.Queue) bool{divided, grown, explained, answeredOnce} {
		if !holds(q) {
			return api.ErrMismatch
		}
	}
	return api.OK
}

// divided reports whether each change is pending, has landed or is refused.
func divided(q api.Queue) bool {
	met := map[int]bool{}
	add := func(id int) bool {
		ok := id >= 1 && id <= len(q.Changes) && !met[id]
		met[id] = true
		return ok
	}
	for i, id := range q.Pending {
		if !add(id) || i > 0 && id <= q.Pending[i-1] {
			return false
		}
	}
	for _, x := range q.Landed {
		if !add(x.Change) {
			return false
		}
	}
	for _, x := range q.Refused {
		if !add(x.Change) {
			return false
		}
	}
	return len(met) == len(q.Changes)
}

// grown reports whether each landing has the result of its change on the trunk before it, and is green.
func grown(q api.Queue) bool {
	for k, x := range q.Landed {
		c := change(q, x.Change)
		before, _ := Past(q, k)
		files, ok := result(q, c, before)
		if c.At > k || !ok || !same(files, x.Files) || colorOf(q, files) != greenTree {
			return false
		}
	}
	return colorOf(q, q.Start) == greenTree
}

// explained reports whether the changes with which others are refused have landed, in order, after these were written.
func explained(q api.Queue) bool {
	for _, x := range q.Refused {
		next := change(q, x.Change).At
		for _, id := range x.With {
			i := slices.IndexFunc(q.Landed, func(y api.Landing) bool { return y.Change == id })
			if i < next {
				return false
			}
			next = i + 1
		}
	}
	return true
}

// answeredOnce reports whether the answers are about different valid lists of files.
func answeredOnce(q api.Queue) bool {
	for i, a := range q.Answers {
		before := slices.ContainsFunc(q.Answers[:i], func(b api.Answer) bool { return same(a.Files, b.Files) })
		if before || tree.Check(a.Files) != api.OK {
			return false
		}
	}
	return true
}
