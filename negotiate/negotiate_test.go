package negotiate_test

import (
	"fmt"
	"math/rand"
	"slices"
	"testing"

	"cordwood/api"
	"cordwood/digest"
	"cordwood/history"
	"cordwood/negotiate"
	"cordwood/pool"
)

type digests = []api.Digest

func same(a, b any) bool { return fmt.Sprintf("%v", a) == fmt.Sprintf("%v", b) }

func commit(t *testing.T, p api.Pool, time int, parents ...api.Digest) (api.Pool, api.Digest) {
	t.Helper()
	p, root, _ := pool.Put(p, api.Object{Kind: api.TreeObject})
	p, d, e := pool.Put(p, api.Object{Kind: api.CommitObject, Tree: root, Parents: parents, Author: "ann", Time: time})
	if e != api.OK {
		t.Fatal(e)
	}
	return p, d
}

func TestExample(t *testing.T) {
	base, a := commit(t, nil, 0)
	client, b := commit(t, base, 1, a)
	server, c := commit(t, base, 2, a)
	talk, e := negotiate.Begin(client, digests{b}, digests{c, c, a})
	if e != api.OK || !same(talk, api.Talk{Want: digests{c}, Queue: digests{b, a}}) {
		t.Fatal("P15.1: Begin", talk, e)
	}
	talk, asked, e := negotiate.Ask(talk, client, 1)
	if e != api.OK || !slices.Equal(asked, digests{b}) || len(negotiate.Answer(server, asked)) != 0 {
		t.Error("P15.1: Ask", asked, e)
	}
	if _, _, e := negotiate.Ask(talk, client, 1); e != api.ErrState {
		t.Error("P15.1: Ask", e)
	}
	talk, e = negotiate.Learn(talk, client, nil)
	if e != api.OK || talk.Done {
		t.Error("P15.1: Learn", e)
	}
	talk, asked, _ = negotiate.Ask(talk, client, 5)
	answer := negotiate.Answer(server, append(asked, asked...))
	talk, e = negotiate.Learn(talk, client, answer)
	if e != api.OK || !slices.Equal(answer, digests{a}) || !same(talk, api.Talk{Want: digests{c}, Common: digests{a}, Done: true}) {
		t.Error("P15.1: Learn", talk, e)
	}
	if l, e := negotiate.Send(server, digests{c}, talk.Common); e != api.OK || !slices.Equal(l, digests{c}) {
		t.Error("P15.1: Send", l, e)
	}
	if _, _, e := negotiate.Ask(talk, client, 1); e != api.ErrState {
		t.Error("P15.1: Ask", e)
	}
	if _, e := negotiate.Learn(talk, client, nil); e != api.ErrState {
		t.Error("P15.1: Learn", e)
	}
}

func TestTalks(t *testing.T) {
	r := rand.New(rand.NewSource(1))
	for range 80 {
		var client, server api.Pool
		var l, heads, want digests
		for i := range 16 {
			var parents digests
			var both api.Pool
			both, _ = pool.Union(client, server)
			for range r.Intn(3) {
				if i > 0 {
					if d := l[r.Intn(i)]; !slices.Contains(parents, d) {
						parents = append(parents, d)
					}
				}
			}
			side := client
			if i%2 == 0 {
				side = server
			}
			if slices.ContainsFunc(parents, func(d api.Digest) bool { return !pool.Has(side, d) }) {
				parents = nil
			}
			next, d := commit(t, side, i, parents...)
			_ = both
			if i%2 == 0 {
				server, want = next, append(want, d)
			} else {
				client, heads = next, append(heads, d)
			}
			if r.Intn(3) == 0 {
				reached, _ := pool.Reach(next, digests{d})
				shared := pool.Keep(next, reached)
				client, _ = pool.Union(client, shared)
				server, _ = pool.Union(server, shared)
			}
			l = append(l, d)
		}
		run(t, r, client, server, heads, want[len(want)-2:])
	}
}

func run(t *testing.T, r *rand.Rand, client, server api.Pool, heads, want digests) {
	t.Helper()
	most := 1 + r.Intn(4)
	talk, e := negotiate.Begin(client, heads, want)
	if e != api.OK {
		t.Fatal("P15.1", e)
	}
	if len(talk.Want) == 0 {
		return
	}
	all, _ := history.Ancestors(client, heads)
	met := map[api.Digest]bool{}
	count := 0
	for !talk.Done {
		next, asked, e := negotiate.Ask(talk, client, most)
		if e != api.OK || len(asked) == 0 || len(asked) > most {
			t.Fatal("P15.1: Ask", e)
		}
		known, _ := history.Ancestors(client, talk.Common)
		for _, d := range asked {
			if met[d] || slices.Contains(known, d) {
				t.Error("P15.3")
			}
			met[d] = true
		}
		talk, e = negotiate.Learn(next, client, negotiate.Answer(server, asked))
		if e != api.OK {
			t.Fatal("P15.1: Learn", e)
		}
		count++
	}
	if count > (len(all)+most-1)/most {
		t.Error("P15.3")
	}
	common, _ := history.Ancestors(client, talk.Common)
	for _, d := range all {
		if slices.Contains(common, d) != (len(negotiate.Answer(server, digests{d})) == 1) {
			t.Error("P15.2")
		}
	}
	sent, e := negotiate.Send(server, want, talk.Common)
	if e != api.OK || !slices.IsSortedFunc(sent, digest.Compare) {
		t.Error("P15.1: Send", e)
	}
	after, _ := pool.Union(client, pool.Keep(server, sent))
	if _, missing := pool.Reach(after, want); len(missing) != 0 {
		t.Error("P15.4")
	}
}

func TestErrors(t *testing.T) {
	p, a := commit(t, nil, 0)
	p, b := commit(t, p, 1, a)
	p, c := commit(t, p, 2, a)
	p, orphan := commit(t, p, 3, api.Digest{7})
	p, blob, _ := pool.Put(p, api.Object{Kind: api.BlobObject})
	first, second := b, c
	if digest.Compare(b, c) > 0 {
		first, second = c, b
	}
	w := digests{{1}}
	for k, x := range []api.Talk{
		{}, {Want: digests{{2}, {1}}, Done: true}, {Want: digests{{1}, {1}}, Done: true}, {Want: w, Common: digests{second, first}, Done: true}, {Want: w, Queue: digests{orphan}}, {Want: w, Queue: digests{blob}},
		{Want: w, Queue: digests{a, b}}, {Want: w, Queue: digests{second, first}}, {Want: w, Queue: digests{a, a}}, {Want: w, Queue: digests{a}, Asked: digests{a}}, {Want: w, Asked: digests{a, b}},
		{Want: w, Queue: digests{a}, Common: digests{b}}, {Want: w, Queue: digests{a}, Common: digests{a}}, {Want: w, Asked: digests{a}, Common: digests{b}}, {Want: w, Common: []api.Digest{a, b}, Done: true},
		{Want: w}, {Want: w, Queue: digests{a}, Done: true}, {Queue: digests{a}, Done: true}, {Asked: digests{a}, Done: true},
	} {
		if y, l, e := negotiate.Ask(x, p, 0); e != api.ErrArgument || len(l) != 0 || !same(y, api.Talk{}) {
			t.Error("P15.1: Ask", k, e)
		}
		if y, e := negotiate.Learn(x, p, nil); e != api.ErrArgument || !same(y, api.Talk{}) {
			t.Error("P15.1: Learn", k, e)
		}
	}
	good := api.Talk{Want: w, Queue: digests{first, second, a}}
	for _, most := range []int{0, -1, 1001} {
		if _, _, e := negotiate.Ask(good, p, most); e != api.ErrRange {
			t.Error("P15.1: Ask", most, e)
		}
	}
	good, _, _ = negotiate.Ask(good, p, 1000)
	if y, e := negotiate.Learn(good, p, digests{a, {5}}); e != api.ErrNotFound || !same(y, api.Talk{}) {
		t.Error("P15.1: Learn", e)
	}
	if y, e := negotiate.Learn(good, p, digests{a, b, a}); e != api.OK || !same(y, api.Talk{Want: w, Common: digests{b}, Done: true}) {
		t.Error("P15.1: Learn", y, e)
	}
	if y, e := negotiate.Begin(p, digests{orphan}, nil); e != api.ErrNotFound || !same(y, api.Talk{}) {
		t.Error("P15.1: Begin", e)
	}
	if y, e := negotiate.Begin(p, digests{a}, digests{a, {}}); e != api.OK || !slices.Equal(y.Want, digests{{}}) {
		t.Error("P15.1: Begin", y, e)
	}
	if y, e := negotiate.Begin(p, digests{a}, digests{a}); e != api.OK || !same(y, api.Talk{Done: true}) {
		t.Error("P15.1: Begin", y, e)
	}
	for k, x := range []struct {
		want, common digests
		e            api.Errno
	}{{digests{blob, {5}}, nil, api.ErrKind}, {digests{{5}, blob}, nil, api.ErrNotFound}, {digests{a}, digests{blob}, api.ErrKind}, {digests{orphan}, nil, api.ErrNotFound}, {digests{orphan}, digests{orphan}, api.OK}} {
		if l, e := negotiate.Send(p, x.want, x.common); e != x.e || len(l) != 0 {
			t.Error("P15.1: Send", k, e)
		}
	}
}
