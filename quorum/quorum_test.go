package quorum_test

import (
	"fmt"
	"math/rand"
	"slices"
	"strings"
	"testing"

	"cordwood/api"
	"cordwood/quorum"
)

func same(a, b any) bool { return fmt.Sprint(a) == fmt.Sprint(b) }

func vote(t *testing.T, b []api.Ballot, key uint64, worker, output string) []api.Ballot {
	t.Helper()
	b, e := quorum.Vote(b, api.Digest{key}, worker, output)
	if e != api.OK || quorum.Check(b) != api.OK {
		t.Fatal("P46.1: Vote", e)
	}
	return b
}

func TestExample(t *testing.T) {
	k := api.Digest{1}
	b := vote(t, vote(t, vote(t, nil, 1, "ann", "x"), 1, "cid", "x"), 1, "bob", "y")
	if s, ok := quorum.Decide(b, k, 2); s != "x" || !ok {
		t.Error("P46.1", s, ok)
	}
	if s, ok := quorum.Decide(b, k, 3); s != "" || ok || quorum.Missing(b, k, 3) != 1 {
		t.Error("P46.1", s, ok)
	}
	if l := quorum.Against(b, k, "x"); !slices.Equal(l, []string{"bob"}) {
		t.Error("P46.1", l)
	}
	if s, ok := quorum.Decide(b, k, 1); s != "x" || !ok {
		t.Error("P46.1: the least one", s, ok)
	}
	if _, e := quorum.Vote(b, k, "ann", "x"); e != api.ErrExists {
		t.Error("P46.2", e)
	}
	for n, want := range map[int]int{-1 << 63: 0, 0: 0, 2: 0, 5: 3, 1<<63 - 1: 1<<63 - 3} {
		if quorum.Missing(b, k, n) != want {
			t.Error("P46.1: Missing", n)
		}
	}
	if s, ok := quorum.Decide(b, k, 0); s != "" || ok {
		t.Error("P46.1: Decide", s)
	}
	if quorum.Missing(b, api.Digest{9}, 4) != 4 || len(quorum.Against(b, api.Digest{9}, "")) != 0 {
		t.Error("P46.1: no ballot")
	}
	if c := quorum.Forget(quorum.Forget(quorum.Forget(vote(t, b, 0, "bob", ""), "bob"), "ann"), "zed"); !same(c, vote(t, nil, 1, "cid", "x")) {
		t.Error("P46.1: Forget", c)
	}
}

func TestRandom(t *testing.T) {
	r := rand.New(rand.NewSource(1))
	for range 200 {
		type v struct {
			key            uint64
			worker, output string
		}
		var l []v
		for _, key := range []uint64{1, 2, 1 << 60} {
			for _, w := range []string{"ann", "bob", "cid", "dan", "eve"} {
				if r.Intn(3) > 0 {
					l = append(l, v{key, w, []string{"x", "y"}[r.Intn(2)]})
				}
			}
		}
		cast := func() []api.Ballot {
			var b []api.Ballot
			decided := map[string]bool{}
			for _, i := range r.Perm(len(l)) {
				b = vote(t, b, l[i].key, l[i].worker, l[i].output)
				_, ok := quorum.Decide(b, api.Digest{l[i].key}, 3)
				id := fmt.Sprint(l[i].key)
				if decided[id] && !ok {
					t.Error("P46.4")
				}
				decided[id] = ok
			}
			return b
		}
		b := cast()
		if !same(b, cast()) {
			t.Error("P46.2")
		}
		for _, key := range []api.Digest{{1}, {2}, {1 << 60}} {
			for n := 1; n < 5; n++ {
				for _, out := range []string{"x", "y"} {
					s, ok := quorum.Decide(b, key, n)
					if len(quorum.Against(b, key, out)) < n && ok && s != out {
						t.Error("P46.3")
					}
				}
				if _, ok := quorum.Decide(b, key, n); ok != (quorum.Missing(b, key, n) == 0) {
					t.Error("P46.1: Missing")
				}
			}
		}
	}
}

func TestErrors(t *testing.T) {
	v := func(worker, output string) api.Vote { return api.Vote{Worker: worker, Output: output} }
	long := strings.Repeat("x", 65537)
	for k, x := range []struct {
		b []api.Ballot
		e api.Errno
	}{
		{nil, api.OK}, {[]api.Ballot{{}}, api.ErrArgument}, {[]api.Ballot{{Key: api.Digest{1}, Votes: []api.Vote{v("a", "")}}, {Key: api.Digest{1}}}, api.ErrOrder}, {[]api.Ballot{{Key: api.Digest{1, 5}, Votes: []api.Vote{v("a", "")}}, {Key: api.Digest{1, 6}, Votes: []api.Vote{v("?", "")}}}, api.OK}, {[]api.Ballot{{Votes: []api.Vote{v("", long)}}}, api.ErrName}, {[]api.Ballot{{Votes: []api.Vote{v(strings.Repeat("a", 25), "")}}}, api.ErrName}, {[]api.Ballot{{Votes: []api.Vote{v("b", ""), v("a", long)}}}, api.ErrOrder}, {[]api.Ballot{{Votes: []api.Vote{v("b", ""), v("b", "")}}}, api.ErrOrder}, {[]api.Ballot{{Votes: []api.Vote{v("b", long)}}}, api.ErrLimit}, {[]api.Ballot{{Votes: []api.Vote{v("b", long[1:])}}}, api.OK},
	} {
		if e := quorum.Check(x.b); e != x.e {
			t.Error("P46.1: Check", k, e)
		}
		want := api.ErrName
		if x.e != api.OK {
			want = api.ErrArgument
		}
		if b, e := quorum.Vote(x.b, api.Digest{}, "", long); e != want || len(b) != 0 {
			t.Error("P46.1: Vote", k, e)
		}
	}
	if b, e := quorum.Vote(nil, api.Digest{}, "a", long); e != api.ErrLimit || len(b) != 0 {
		t.Error("P46.1: Vote", e)
	}
}
