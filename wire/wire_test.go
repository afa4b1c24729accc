package wire_test

import (
	"fmt"
	"math/rand"
	"strings"
	"testing"

	"cordwood/api"
	"cordwood/digest"
	"cordwood/wire"
)

type msg = api.Message

func same(a, b any) bool { return fmt.Sprintf("%q", a) == fmt.Sprintf("%q", b) }

func frame(t *testing.T, m msg) string {
	t.Helper()
	s, e := wire.Encode(m)
	if e != api.OK {
		t.Fatal("P16.1: Encode", e)
	}
	return s
}

var messages = []msg{
	{Kind: api.WantMessage}, {Kind: api.WantMessage, Id: 1 << 40, Offset: 2, Digests: []api.Digest{{1, 2}, {3, 4}}}, {Kind: api.PartMessage, Total: 5, Offset: 2, Data: "abc"},
	{Kind: api.PartMessage, Id: 7, Total: 1 << 20, Offset: 1<<20 - 1, Data: "x"}, {Kind: api.GapMessage, Total: 1, Offset: 1<<20 - 1}, {Kind: api.DoneMessage, Id: 3}, {Kind: api.WantMessage, Digests: make([]api.Digest, 1000)},
}

func TestFrames(t *testing.T) {
	body := "\x02\x07\x02\x05\x00\x03abc"
	h := digest.Of(body)[0]
	want := "\x00\x00\x00\x09"
	for k := 7; k >= 0; k-- {
		want += string([]byte{byte(h >> (8 * k))})
	}
	if s := frame(t, msg{Kind: api.PartMessage, Id: 7, Total: 5, Offset: 2, Data: "abc"}); s != want+body {
		t.Errorf("P16.1: %q", s)
	}
	stream := ""
	var ends []int
	for _, m := range messages {
		stream += frame(t, m)
		ends = append(ends, len(stream))
	}
	if l, n := wire.Scan(stream + "junk"); n != len(stream) || !same(l, messages) {
		t.Error("P16.2", n)
	}
	for k := 0; k < len(stream); k += 7 {
		count, at := 0, 0
		for i, end := range ends {
			if end <= k {
				count, at = i+1, end
			}
		}
		if l, n := wire.Scan(stream[:k]); n != at || !same(l, messages[:count]) {
			t.Error("P16.2", k, n)
		}
	}
	for k := range stream[:ends[2]] {
		bad := []byte(stream[:ends[2]])
		bad[k] ^= 1
		if l, n := wire.Scan(string(bad)); n > k || len(l) > 2 {
			t.Error("P16.1: Scan", k)
		}
	}
	seal := func(body string) string {
		h := digest.Of(body)[0]
		s := "\x00\x00\x00" + string([]byte{byte(len(body))})
		for k := 7; k >= 0; k-- {
			s += string([]byte{byte(h >> (8 * k))})
		}
		return s + body
	}
	for _, body := range []string{"\x05\x00\x00\x00\x00\x00", "\x04\x00\x01\x00\x00\x00", "\x04\x00\x00\x00\x00\x00\x00", "\x84\x00\x00\x00\x00\x00\x00", ""} {
		if l, n := wire.Scan(seal(body)); n != 0 || len(l) != 0 {
			t.Errorf("P16.1: %q", body)
		}
	}
}

func TestEncodeErrors(t *testing.T) {
	for k, x := range []struct {
		m msg
		e api.Errno
	}{
		{msg{Id: -1}, api.ErrKind}, {msg{Kind: 5}, api.ErrKind}, {msg{Kind: 1, Id: -1, Total: 1}, api.ErrRange}, {msg{Kind: 4, Id: 1<<40 + 1}, api.ErrRange},
		{msg{Kind: 1, Digests: make([]api.Digest, 1001)}, api.ErrArgument}, {msg{Kind: 1, Offset: 1}, api.ErrArgument}, {msg{Kind: 1, Offset: -1}, api.ErrArgument}, {msg{Kind: 1, Total: 1}, api.ErrArgument}, {msg{Kind: 1, Data: "x"}, api.ErrArgument},
		{msg{Kind: 2, Total: 1}, api.ErrArgument}, {msg{Kind: 2, Total: 1, Data: "ab"}, api.ErrArgument}, {msg{Kind: 2, Total: 2, Offset: 1, Data: "ab"}, api.ErrArgument}, {msg{Kind: 2, Total: 1<<20 + 1, Data: "a"}, api.ErrArgument},
		{msg{Kind: 2, Total: 1 << 20, Data: strings.Repeat("a", 65537)}, api.ErrArgument}, {msg{Kind: 2, Total: 2, Offset: -1, Data: "a"}, api.ErrArgument}, {msg{Kind: 2, Total: 1, Data: "a", Digests: make([]api.Digest, 1)}, api.ErrArgument},
		{msg{Kind: 3}, api.ErrArgument}, {msg{Kind: 3, Total: 1, Offset: 1 << 20}, api.ErrArgument}, {msg{Kind: 3, Total: 1 << 40, Offset: 0}, api.ErrArgument}, {msg{Kind: 3, Total: 1, Data: "x"}, api.ErrArgument}, {msg{Kind: 3, Total: 1, Offset: -1}, api.ErrArgument},
		{msg{Kind: 4, Offset: 1}, api.ErrArgument}, {msg{Kind: 4, Total: 1}, api.ErrArgument}, {msg{Kind: 4, Data: "x"}, api.ErrArgument}, {msg{Kind: 4, Digests: make([]api.Digest, 1)}, api.ErrArgument},
	} {
		if s, e := wire.Encode(x.m); s != "" || e != x.e {
			t.Error("P16.1: Encode", k, e)
		}
	}
}

func TestParts(t *testing.T) {
	l, e := wire.Split(3, "abcde", 2)
	if e != api.OK || !same(l, []msg{{Kind: 2, Id: 3, Total: 5, Data: "ab"}, {Kind: 2, Id: 3, Total: 5, Offset: 2, Data: "cd"}, {Kind: 2, Id: 3, Total: 5, Offset: 4, Data: "e"}}) {
		t.Error("P16.1: Split", l, e)
	}
	x, _ := wire.Gather(api.Parts{Id: -5, Total: -6}, l[2])
	x, _ = wire.Gather(x, l[0])
	if at, n, ok := wire.Gap(x); at != 2 || n != 2 || !ok {
		t.Error("P16.1: Gap", at, n, ok)
	}
	if s, ok := wire.Whole(x); s != "" || ok {
		t.Error("P16.1: Whole")
	}
	x, e = wire.Gather(x, l[1])
	if s, ok := wire.Whole(x); s != "abcde" || !ok || e != api.OK || len(x.Pieces) != 1 {
		t.Error("P16.3", s, e)
	}
	if at, n, ok := wire.Gap(x); at != 0 || n != 0 || ok {
		t.Error("P16.1: Gap")
	}
	for k, y := range []struct {
		id, size int
		data     string
		e        api.Errno
	}{{-1, 1, "", api.ErrRange}, {1<<40 + 1, 1, "", api.ErrRange}, {0, 0, "", api.ErrRange}, {0, 65537, strings.Repeat("a", 1<<20+1), api.ErrRange}, {0, 1, strings.Repeat("a", 1<<20+1), api.ErrLimit}, {0, 1, "", api.OK}} {
		if l, e := wire.Split(y.id, y.data, y.size); e != y.e || len(l) != 0 {
			t.Error("P16.1: Split", k, e)
		}
	}
}

func TestRandom(t *testing.T) {
	r := rand.New(rand.NewSource(1))
	for range 200 {
		text := make([]byte, 1+r.Intn(40))
		for i := range text {
			text[i] = byte('a' + r.Intn(26))
		}
		var x api.Parts
		known := make([]bool, len(text))
		for range r.Intn(12) {
			from := r.Intn(len(text))
			to := from + 1 + r.Intn(len(text)-from)
			y, e := wire.Gather(x, msg{Kind: 2, Id: 1, Total: len(text), Offset: from, Data: string(text[from:to])})
			if e != api.OK {
				t.Fatal("P16.3", e)
			}
			for i := from; i < to; i++ {
				if known[i] {
					bad := append([]byte{}, text[from:to]...)
					bad[i-from]++
					if z, e := wire.Gather(x, msg{Kind: 2, Id: 1, Total: len(text), Offset: from, Data: string(bad)}); e != api.ErrMismatch || !same(z, api.Parts{}) {
						t.Error("P16.5", e)
					}
				}
			}
			for i := from; i < to; i++ {
				known[i] = true
			}
			x = y
			has := make([]bool, len(text))
			last := -1
			for _, p := range x.Pieces {
				if p.Offset <= last || p.Data != string(text[p.Offset:p.Offset+len(p.Data)]) {
					t.Error("P16.5: pieces")
				}
				last = p.Offset + len(p.Data)
				for i := p.Offset; i < last; i++ {
					has[i] = true
				}
			}
			if !same(has, known) {
				t.Error("P16.1: Gather")
			}
		}
		if len(x.Pieces) == 0 {
			continue
		}
		for {
			at, n, ok := wire.Gap(x)
			if !ok {
				break
			}
			x, _ = wire.Gather(x, msg{Kind: 2, Id: 1, Total: len(text), Offset: at, Data: string(text[at : at+n])})
		}
		if s, ok := wire.Whole(x); !ok || s != string(text) {
			t.Error("P16.4")
		}
	}
}

func TestGatherErrors(t *testing.T) {
	good := msg{Kind: 2, Id: 1, Total: 5, Data: "a"}
	p := func(offset int, s string) api.Piece { return api.Piece{Offset: offset, Data: s} }
	for k, x := range []api.Parts{
		{Id: 1, Total: 5, Pieces: []api.Piece{p(0, "")}}, {Id: -1, Total: 5, Pieces: []api.Piece{p(0, "a")}}, {Id: 1<<40 + 1, Total: 5, Pieces: []api.Piece{p(0, "a")}}, {Id: 1, Total: 1<<20 + 1, Pieces: []api.Piece{p(0, "a")}},
		{Id: 1, Total: 5, Pieces: []api.Piece{p(0, "a"), p(1, "b")}}, {Id: 1, Total: 5, Pieces: []api.Piece{p(2, "a"), p(0, "b")}}, {Id: 1, Total: 5, Pieces: []api.Piece{p(4, "ab")}}, {Id: 1, Total: 5, Pieces: []api.Piece{p(-1, "ab")}},
		{Id: 1, Total: 0, Pieces: []api.Piece{p(0, "a")}},
	} {
		if y, e := wire.Gather(x, msg{}); e != api.ErrArgument || !same(y, api.Parts{}) {
			t.Error("P16.1: Gather", k, e)
		}
		if _, ok := wire.Whole(x); ok {
			t.Error("P16.1: Whole", k)
		}
		if at, n, ok := wire.Gap(x); at != 0 || n != 0 || ok {
			t.Error("P16.1: Gap", k)
		}
	}
	if _, e := wire.Gather(api.Parts{}, msg{Kind: 3}); e != api.ErrKind {
		t.Error("P16.1: Gather", e)
	}
	if _, e := wire.Gather(api.Parts{}, msg{Kind: 2, Id: -1, Total: 1, Data: "a"}); e != api.ErrArgument {
		t.Error("P16.1: Gather", e)
	}
	x, _ := wire.Gather(api.Parts{}, good)
	for _, m := range []msg{{Kind: 2, Id: 2, Total: 5, Data: "a"}, {Kind: 2, Id: 1, Total: 6, Data: "a"}, {Kind: 2, Id: 1, Total: 5, Data: "b"}} {
		if _, e := wire.Gather(x, m); e != api.ErrMismatch {
			t.Error("P16.1: Gather", e)
		}
	}
	if _, _, ok := wire.Gap(api.Parts{Total: 5}); ok {
		t.Error("P16.1: Gap")
	}
}
