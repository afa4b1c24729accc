package digest_test

import (
	"slices"
	"strconv"
	"strings"
	"testing"

	"cordwood/api"
	"cordwood/digest"
)

func list(n int) []api.Digest {
	var l []api.Digest
	for i := range n {
		l = append(l, digest.Of(strconv.Itoa(i)))
	}
	return l
}

func TestOf(t *testing.T) {
	if s := digest.Format(digest.Of("")); s != "cbf29ce484222325cbf29ce484222325" {
		t.Error("P2.1", s)
	}
	if s := digest.Format(digest.Of("a")); s != "af63dc4c8601ec8caf63bd4c8601b7be" {
		t.Error("P2.1", s)
	}
	// These are known values of FNV-1a and FNV-1 of 64 bits.
	if s := digest.Format(digest.Of("foobar")); s != "85944171f73967e8340d8765a4dda9c2" {
		t.Error("P2.1", s)
	}
}

func TestText(t *testing.T) {
	l := append(list(20), api.Digest{}, api.Digest{0, 1}, api.Digest{1, 0}, api.Digest{1<<64 - 1, 1<<64 - 1})
	for _, d := range l {
		s := digest.Format(d)
		if b, e := digest.Parse(s); b != d || e != api.OK || len(s) != 32 {
			t.Error("P2.2", s, e)
		}
		for _, c := range l {
			if digest.Compare(d, c) != strings.Compare(s, digest.Format(c)) {
				t.Error("P2.2", s, c)
			}
		}
		for _, bad := range []string{s[1:], s + "0", "A" + s[1:], "g" + s[1:], "", " " + s[1:]} {
			if b, e := digest.Parse(bad); b != (api.Digest{}) || e != api.ErrSyntax {
				t.Error("P2.2", bad, e)
			}
		}
	}
}

func TestTrees(t *testing.T) {
	if digest.Root(nil) != digest.Of("") {
		t.Error("P2.1: empty root")
	}
	l := list(3)
	bytes := func(d api.Digest) string {
		var b []byte
		for _, n := range d {
			for k := 7; k >= 0; k-- {
				b = append(b, byte(n>>(8*k)))
			}
		}
		return string(b)
	}
	leaf := func(i int) api.Digest { return digest.Of("\x00" + bytes(l[i])) }
	pair := digest.Of("\x01" + bytes(leaf(0)) + bytes(leaf(1)))
	if digest.Pair(leaf(0), leaf(1)) != pair || digest.Root(l[:2]) != pair || digest.Root(l) != digest.Pair(pair, leaf(2)) {
		t.Error("P2.1: root")
	}
	if p, e := digest.Proof(l, 0); !slices.Equal(p, []api.Digest{leaf(1), leaf(2)}) || e != api.OK {
		t.Error("P2.1: proof", e)
	}
	if p, e := digest.Proof(l, 2); !slices.Equal(p, []api.Digest{pair}) || e != api.OK {
		t.Error("P2.1: proof", e)
	}
	for _, i := range []int{-1, 3, 1 << 62} {
		if p, e := digest.Proof(l, i); len(p) != 0 || e != api.ErrRange {
			t.Error("P2.1", i, e)
		}
	}
}

func TestProofs(t *testing.T) {
	for n := 1; n < 20; n++ {
		l := list(n)
		root := digest.Root(l)
		for i := range l {
			p, e := digest.Proof(l, i)
			if e != api.OK || !digest.Verify(root, n, i, l[i], p) {
				t.Error("P2.3", n, i)
			}
			for k := range l {
				if k != i && digest.Verify(root, n, i, l[k], p) {
					t.Error("P2.4", n, i, k)
				}
			}
			if digest.Verify(root, n, i, l[i], append(p, root)) || digest.Verify(root, n, -1, l[i], p) || digest.Verify(root, n, n, l[i], p) {
				t.Error("P2.1: Verify", n, i)
			}
			if len(p) > 0 && (digest.Verify(root, n, i, l[i], p[1:]) || digest.Verify(p[0], n, i, l[i], p)) {
				t.Error("P2.1: Verify", n, i)
			}
		}
	}
	for _, n := range []int{0, -1, 1<<40 + 1, -1 << 63} {
		if digest.Verify(digest.Of(""), n, 0, api.Digest{}, nil) {
			t.Error("P2.1: Verify", n)
		}
	}
	d := digest.Of("x")
	root, p := digest.Root([]api.Digest{d}), []api.Digest(nil)
	for range 40 {
		p = append(p, d)
		root = digest.Pair(root, d)
	}
	if !digest.Verify(root, 1<<40, 0, d, p) || digest.Verify(root, 1<<40, 1, d, p) {
		t.Error("P2.1: Verify of a great tree")
	}
}
