package transfer_test

import (
	"fmt"
	"math/rand"
	"slices"
	"strings"
	"testing"

	"cordwood/api"
	"cordwood/pool"
	"cordwood/transfer"
	"cordwood/tree"
	"cordwood/wire"
)

type digests = []api.Digest

func same(a, b any) bool { return fmt.Sprintf("%q", a) == fmt.Sprintf("%q", b) }

func commit(t *testing.T, p api.Pool, time int, l []api.File, parents ...api.Digest) (api.Pool, api.Digest) {
	t.Helper()
	p, root, e := tree.Store(p, l)
	if e != api.OK {
		t.Fatal(e)
	}
	p, d, e := pool.Put(p, api.Object{Kind: api.CommitObject, Tree: root, Parents: parents, Author: "ann", Time: time})
	if e != api.OK {
		t.Fatal(e)
	}
	return p, d
}

func begin(t *testing.T, have api.Pool, want, common digests) api.Session {
	t.Helper()
	s, e := transfer.Begin(have, want, common)
	if e != api.OK {
		t.Fatal("P17.1: Begin", e)
	}
	return s
}

func serve(t *testing.T, p api.Pool, s api.Session, size int) []string {
	t.Helper()
	q, e := transfer.Request(s)
	if e != api.OK {
		t.Fatal("P17.1: Request", e)
	}
	reply, e := transfer.Serve(p, q, size)
	if e != api.OK {
		t.Fatal("P17.1: Serve", e)
	}
	l, n := wire.Scan(reply)
	if n != len(reply) {
		t.Fatal("P17.1: Serve")
	}
	var frames []string
	for _, m := range l {
		f, _ := wire.Encode(m)
		frames = append(frames, f)
	}
	return frames
}

func receive(t *testing.T, s api.Session, stream string) (api.Session, int) {
	t.Helper()
	x, n, e := transfer.Receive(s, stream)
	if e != api.OK || pool.Check(x.Have) != api.OK || !x.Done && !same(x.Have, s.Have) || x.Asked != (len(x.Parts.Pieces) > 0) {
		t.Fatal("P17.1, P17.2: Receive", e)
	}
	return x, n
}

func TestExample(t *testing.T) {
	server, c := commit(t, nil, 0, nil)
	s := begin(t, nil, digests{c}, nil)
	all := serve(t, server, s, 100)
	l, _ := wire.Scan(strings.Join(all, ""))
	size := (l[0].Total + 1) / 2
	two := serve(t, server, s, size)
	if len(two) != 2 || s.Done || s.Asked {
		t.Fatal("P17.1", len(two))
	}
	s, n := receive(t, s, two[0])
	if n != 1 || !s.Asked || s.Done {
		t.Error("P17.1", n)
	}
	q, _ := transfer.Request(s)
	m, _ := wire.Scan(q)
	if len(m) != 2 || m[1].Kind != api.GapMessage || m[1].Offset != size || m[1].Total != l[0].Total-size || m[0].Offset != 1 || !slices.Equal(m[0].Digests, digests{c}) {
		t.Error("P17.1: Request", m)
	}
	rest := serve(t, server, s, 65536)
	if len(rest) != 1 {
		t.Error("P17.4", len(rest))
	}
	s, _ = receive(t, s, rest[0]+two[0])
	p, e := transfer.Result(s)
	if !s.Done || e != api.OK || !same(p, server) || s.Asked {
		t.Error("P17.3", e)
	}
	if _, e := transfer.Request(s); e != api.ErrState {
		t.Error("P17.1: Request", e)
	}
	if x, n, e := transfer.Receive(s, two[0]); e != api.ErrState || n != 0 || !same(x, api.Session{}) {
		t.Error("P17.1: Receive", e)
	}
}

func TestFetch(t *testing.T) {
	r := rand.New(rand.NewSource(1))
	for range 40 {
		text := strings.Repeat("word ", 30)
		server, a := commit(t, nil, 0, []api.File{{Path: "x", Data: text}, {Path: "y", Data: "y"}})
		have := server
		server, b := commit(t, server, 1, []api.File{{Path: "x", Data: text + "more"}, {Path: "z", Data: "z"}}, a)
		server, extra := commit(t, server, 2, nil)
		want, common := digests{b}, digests{a}
		if r.Intn(2) == 0 {
			have, common = nil, nil
		}
		s := begin(t, have, want, common)
		frames := serve(t, server, s, 1+r.Intn(60))
		mixed := slices.Concat(frames, frames, []string{})
		r.Shuffle(len(mixed), func(i, k int) { mixed[i], mixed[k] = mixed[k], mixed[i] })
		x, _ := receive(t, s, strings.Join(mixed, "")+"junk")
		if !x.Done || pool.Has(x.Have, extra) {
			t.Error("P17.3")
		}
		if _, missing := pool.Reach(x.Have, want); len(missing) != 0 {
			t.Error("P17.2")
		}
		// Some parts are lost; then each round asks for one gap.
		var some []string
		for _, f := range frames {
			if r.Intn(2) == 0 {
				some = append(some, f)
			}
		}
		x, _ = receive(t, s, strings.Join(some, ""))
		gaps := 1 + len(x.Parts.Pieces)
		for round := 0; !x.Done; round++ {
			if round > gaps+2 {
				t.Fatal("P17.4")
			}
			for _, f := range serve(t, server, x, 65536) {
				m, _ := wire.Scan(f)
				for _, p := range x.Parts.Pieces {
					if m[0].Offset < p.Offset+len(p.Data) && p.Offset < m[0].Offset+len(m[0].Data) {
						t.Error("P17.4: a known byte is asked for again")
					}
				}
				x, _ = receive(t, x, f)
			}
		}
		evil(t, r, s, server, frames)
	}
}

// evil changes what the network brings.
func evil(t *testing.T, r *rand.Rand, s api.Session, server api.Pool, frames []string) {
	t.Helper()
	x := s
	for range 20 {
		f := frames[r.Intn(len(frames))]
		m, _ := wire.Scan(f)
		switch r.Intn(4) {
		case 0:
			m[0].Id = r.Intn(2)
		case 1:
			m[0].Data = strings.Repeat("?", len(m[0].Data))
		case 2:
			m[0] = api.Message{Kind: api.DoneMessage}
		}
		g, _ := wire.Encode(m[0])
		if x.Done {
			return
		}
		x, _ = receive(t, x, g)
	}
	for round := 0; !x.Done; round++ {
		if round > 200 {
			t.Fatal("P17.4: after lies")
		}
		x, _ = receive(t, x, strings.Join(serve(t, server, x, 65536), ""))
	}
}

func TestErrors(t *testing.T) {
	p, a := commit(t, nil, 0, []api.File{{Path: "x", Data: "1"}})
	p, blob, _ := pool.Put(p, api.Object{Kind: api.BlobObject, Data: "1"})
	less := slices.DeleteFunc(slices.Clone(p), func(x api.Item) bool { return x.Digest == blob })
	for k, x := range []struct {
		have         api.Pool
		want, common digests
		e            api.Errno
	}{
		{p, make(digests, 999), make(digests, 2), api.ErrLimit}, {p, nil, digests{a, blob, {}}, api.ErrKind}, {p, nil, digests{{}}, api.ErrNotFound}, {less, nil, digests{a}, api.ErrNotFound},
	} {
		if s, e := transfer.Begin(x.have, x.want, x.common); e != x.e || !same(s, api.Session{}) {
			t.Error("P17.1: Begin", k, e)
		}
	}
	if !begin(t, p, digests{a}, digests{a}).Done || begin(t, less, digests{a}, nil).Done || begin(t, p, digests{{}}, nil).Done || !begin(t, nil, nil, nil).Done {
		t.Error("P17.1: Begin")
	}
	if q, e := transfer.Result(begin(t, nil, digests{a}, nil)); e != api.ErrState || len(q) != 0 {
		t.Error("P17.1: Result", e)
	}
	frame := func(m api.Message) string {
		s, e := wire.Encode(m)
		if e != api.OK {
			t.Fatal(e)
		}
		return s
	}
	want := frame(api.Message{Kind: api.WantMessage, Id: 9, Offset: 1, Digests: digests{a}})
	gap, done := frame(api.Message{Kind: api.GapMessage, Total: 1}), frame(api.Message{Kind: api.DoneMessage})
	for k, x := range []struct {
		request string
		size    int
		e       api.Errno
	}{
		{"", 0, api.ErrRange}, {want, 65537, api.ErrRange}, {"", 1, api.ErrDecode}, {gap, 1, api.ErrDecode}, {want + done, 1, api.ErrDecode}, {want + gap + gap, 1, api.ErrDecode}, {want + "x", 1, api.ErrDecode}, {want + gap, 1, api.OK},
		{frame(api.Message{Kind: api.WantMessage, Offset: 1, Digests: digests{{4}}}), 1, api.ErrNotFound}, {frame(api.Message{Kind: api.WantMessage, Offset: 1, Digests: digests{a, blob}}), 1, api.ErrKind},
	} {
		if s, e := transfer.Serve(p, x.request, x.size); e != x.e || (s == "") != (e != api.OK) {
			t.Error("P17.1: Serve", k, e)
		}
	}
	one, _ := transfer.Serve(p, want, 10)
	two, _ := transfer.Serve(p, want+gap, 10)
	if one != two {
		t.Error("P17.1: a gap of another pack")
	}
}

func TestLimit(t *testing.T) {
	r := rand.New(rand.NewSource(1))
	var l []api.File
	for i := range 18 {
		b := make([]byte, 60000)
		r.Read(b)
		l = append(l, api.File{Path: fmt.Sprintf("f%02d", i), Data: string(b)})
	}
	p, a := commit(t, nil, 0, l)
	q, _ := transfer.Request(begin(t, nil, digests{a}, nil))
	if s, e := transfer.Serve(p, q, 65536); e != api.ErrLimit || s != "" {
		t.Error("P17.1: Serve", e)
	}
}

func TestRequests(t *testing.T) {
	server, a := commit(t, nil, 0, []api.File{{Path: "x", Data: "1"}})
	client := server
	server, b := commit(t, server, 1, []api.File{{Path: "x", Data: "2"}}, a)
	more, _ := commit(t, server, 2, []api.File{{Path: "z", Data: "3"}}, b)
	rich, _ := commit(t, client, 3, nil)
	s, r := begin(t, client, digests{b}, digests{a}), begin(t, rich, digests{b}, digests{a})
	frames := serve(t, server, s, 50)
	for range 2 {
		x, _ := transfer.Request(s)
		y, _ := transfer.Request(r)
		one, e := transfer.Serve(server, x, 50)
		two, f := transfer.Serve(more, y, 50)
		if x != y || one != two || e != api.OK || f != api.OK {
			t.Error("P17.5", e, f)
		}
		// The second time, some of the parts have arrived.
		s, _ = receive(t, s, frames[1])
		r, _ = receive(t, r, frames[1])
	}
}
