package chunk_test

import (
	"math/rand"
	"slices"
	"strings"
	"testing"

	"cordwood/api"
	"cordwood/chunk"
	"cordwood/digest"
)

func of(least, most, window, bits int) api.Chunking {
	return api.Chunking{Least: least, Most: most, Window: window, Bits: bits}
}

func random(r *rand.Rand, n int) string {
	b := make([]byte, n)
	for i := range b {
		b[i] = byte(r.Intn(4))
	}
	return string(b)
}

// plain divides data as the chapter says, without a rolling hash.
func plain(s string, p api.Chunking) []string {
	var l []string
	begin := 0
	for i := range len(s) {
		n := i + 1 - begin
		h := uint32(0)
		if n >= p.Least {
			for _, b := range []byte(s[i+1-p.Window : i+1]) {
				h = h*16777619 + uint32(b) + 1
			}
			h ^= h >> 15
		}
		if n >= p.Least && h%(1<<p.Bits) == 0 || n >= p.Most || i+1 == len(s) {
			l = append(l, s[begin:i+1])
			begin = i + 1
		}
	}
	return l
}

func TestSplit(t *testing.T) {
	r := rand.New(rand.NewSource(1))
	for _, p := range []api.Chunking{of(1, 3, 1, 0), of(2, 2, 1, 0), of(4, 40, 3, 3), of(8, 8, 8, 16), of(5, 100, 5, 4), of(1, 65536, 1, 16)} {
		for range 20 {
			s := random(r, r.Intn(500))
			l, e := chunk.Split(s, p)
			if e != api.OK || !slices.Equal(l, plain(s, p)) {
				t.Fatal("P3.1", p, e)
			}
			if strings.Join(l, "") != s {
				t.Error("P3.2")
			}
			ends, _ := chunk.Bounds(s, p)
			names, _ := chunk.Manifest(s, p)
			at := 0
			for i, c := range l {
				at += len(c)
				if ends[i] != at || names[i] != digest.Of(c) || len(c) > p.Most || len(c) < p.Least && i < len(l)-1 {
					t.Error("P3.1, P3.2", p, i)
				}
				front, _ := chunk.Split(s[:at], p)
				back, _ := chunk.Split(s[at:], p)
				if !slices.Equal(front, l[:i+1]) || !slices.Equal(back, l[i+1:]) {
					t.Error("P3.3", p, i)
				}
			}
			if len(ends) != len(l) || len(names) != len(l) {
				t.Error("P3.1")
			}
		}
	}
	if l, _ := chunk.Split("abcde", api.Chunking{Least: 2, Most: 2, Window: 1}); !slices.Equal(l, []string{"ab", "cd", "e"}) {
		t.Error("P3.1", l)
	}
	if l, _ := chunk.Split("abc", api.Chunking{Least: 1, Most: 3, Window: 1}); !slices.Equal(l, []string{"a", "b", "c"}) {
		t.Error("P3.1", l)
	}
}

func TestFresh(t *testing.T) {
	r := rand.New(rand.NewSource(2))
	p := api.Chunking{Least: 4, Most: 60, Window: 3, Bits: 3}
	for range 50 {
		s := random(r, 300)
		if n, e := chunk.Fresh(s, s, p); n != 0 || e != api.OK {
			t.Error("P3.5", n, e)
		}
		l, _ := chunk.Split(s, p)
		more, _ := chunk.Split(s+"xyz", p)
		if !slices.Equal(l[:len(l)-1], more[:len(l)-1]) {
			t.Error("P3.5")
		}
		other := random(r, 200)
		ends, _ := chunk.Bounds(other, p)
		back, _ := chunk.Split(other[ends[1]:]+s, p)
		whole, _ := chunk.Split(other+s, p)
		if !slices.Equal(whole[2:], back) {
			t.Error("P3.4")
		}
	}
	if n, e := chunk.Fresh("ab", "xxyab", api.Chunking{Least: 1, Most: 1, Window: 1}); n != 3 || e != api.OK {
		t.Error("P3.1: each chunk counts", n, e)
	}
}

func TestErrors(t *testing.T) {
	good := api.Chunking{Least: 1, Most: 65536, Window: 1, Bits: 16}
	if chunk.Check(good) != api.OK {
		t.Error("P3.1")
	}
	for _, p := range []api.Chunking{{}, of(0, 1, 0, 0), of(1, 1, 2, 0), of(2, 1, 1, 0), of(1, 65537, 1, 0), of(1, 1, 1, -1), of(1, 1, 1, 17), of(1, 1, -1, 0)} {
		if chunk.Check(p) != api.ErrRange {
			t.Error("P3.1", p)
		}
		if l, e := chunk.Split(strings.Repeat("x", 65537), p); len(l) != 0 || e != api.ErrRange {
			t.Error("P3.1", p, e)
		}
	}
	long := strings.Repeat("x", 65537)
	if l, e := chunk.Bounds(long, good); len(l) != 0 || e != api.ErrLimit {
		t.Error("P3.1", e)
	}
	if l, e := chunk.Manifest(long, good); len(l) != 0 || e != api.ErrLimit {
		t.Error("P3.1", e)
	}
	if n, e := chunk.Fresh("", long, good); n != 0 || e != api.ErrLimit {
		t.Error("P3.1", e)
	}
	if n, e := chunk.Fresh(long, "", good); n != 0 || e != api.ErrLimit {
		t.Error("P3.1", e)
	}
	if l, e := chunk.Split("", good); len(l) != 0 || e != api.OK {
		t.Error("P3.1", e)
	}
}
