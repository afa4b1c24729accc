package pack_test

import (
	"fmt"
	"math/rand"
	"slices"
	"strings"
	"testing"

	"cordwood/api"
	"cordwood/delta"
	"cordwood/digest"
	"cordwood/object"
	"cordwood/pack"
	"cordwood/parts"
	"cordwood/pool"
)

func same(a, b any) bool { return fmt.Sprintf("%q", a) == fmt.Sprintf("%q", b) }

func blobs(t *testing.T, texts ...string) (api.Pool, []api.Digest) {
	t.Helper()
	var p api.Pool
	var l []api.Digest
	for _, s := range texts {
		var d api.Digest
		var e api.Errno
		p, d, e = pool.Put(p, api.Object{Kind: api.BlobObject, Data: s})
		if e != api.OK {
			t.Fatal(e)
		}
		l = append(l, d)
	}
	return p, l
}

func seal(body string) string { return body + parts.Digest(digest.Of(body)) }

func TestRoundTrip(t *testing.T) {
	r := rand.New(rand.NewSource(1))
	for range 40 {
		var texts []string
		text := strings.Repeat("some words ", 10)
		for i := range 8 {
			at := r.Intn(len(text))
			text = text[:at] + fmt.Sprint(r.Intn(1000)) + text[at:]
			texts = append(texts, text+fmt.Sprint(i))
		}
		p, l := blobs(t, texts...)
		l, base := l[3:], l[:3]
		s, e := pack.Pack(p, l, base)
		alone, f := pack.Pack(p, l, nil)
		if e != api.OK || f != api.OK || len(s) > len(alone) {
			t.Fatal("P10.5", e, f)
		}
		if q, e := pack.Unpack(s, pool.Keep(p, base)); e != api.OK || !same(q, p) {
			t.Error("P10.2", e)
		}
		if q, e := pack.Unpack(alone, nil); e != api.OK || !same(q, pool.Keep(p, l)) {
			t.Error("P10.2", e)
		}
		again, e := pack.Pack(p, l, l)
		if q, f := pack.Unpack(again, p); e != api.OK || f != api.OK || !same(q, p) {
			t.Error("P10.2: own bases", e, f)
		}
		entries, _ := pack.Entries(s)
		deltas := 0
		for i, x := range entries {
			deltas += x.Kind
			o, _ := pool.Get(p, l[i])
			want, _ := object.Encode(o)
			if data, e := pack.Find(s, l[i], pool.Keep(p, base)); data != want || e != api.OK || x.Digest != l[i] {
				t.Error("P10.1: Find", e)
			}
		}
		if deltas == 0 {
			t.Error("P10.1: no deltas")
		}
		bad := []byte(s)
		bad[r.Intn(len(bad))] ^= 1 << r.Intn(8)
		if l, e := pack.Entries(string(bad)); e != api.ErrChecksum || len(l) != 0 {
			t.Error("P10.4", e)
		}
	}
}

func TestExample(t *testing.T) {
	p, l := blobs(t, "hi")
	s, e := pack.Pack(p, l, nil)
	x, f := pack.Entries(s)
	if e != api.OK || f != api.OK || len(s) != 39 || !same(x, []api.PackEntry{{Digest: l[0], Offset: 19, Length: 4}}) {
		t.Error("P10.1", len(s), x)
	}
	if s, e := pack.Pack(p, nil, nil); s != seal("\x00") || e != api.OK {
		t.Errorf("P10.1: %q", s)
	}
}

func TestChoice(t *testing.T) {
	long := strings.Repeat("0123456789", 6)
	p, l := blobs(t, long+"w", long+"x", long+"y")
	s, _ := pack.Pack(p, l[2:], l[:2])
	x, _ := pack.Entries(s)
	if len(x) != 1 || x[0].Kind != api.DeltaEntry || x[0].Base != l[0] {
		t.Error("P10.1: the first of the best candidates", x)
	}
	// A delta saves enough only if it is shorter by more than the bytes of a digest.
	for n := 10; n < 40; n++ {
		p, l := blobs(t, strings.Repeat("a", n), strings.Repeat("a", n)+"b")
		a, _ := pool.Get(p, l[0])
		b, _ := pool.Get(p, l[1])
		source, _ := object.Encode(a)
		data, _ := object.Encode(b)
		d, _ := delta.Encode(delta.Diff(source, data))
		s, _ := pack.Pack(p, l, nil)
		x, _ := pack.Entries(s)
		if (x[1].Kind == api.DeltaEntry) != (len(parts.Text(d))+16 < len(parts.Text(data))) {
			t.Error("P10.1", n)
		}
	}
}

func TestTrust(t *testing.T) {
	p, l := blobs(t, strings.Repeat("a", 50), "b")
	a, _ := pool.Get(p, l[0])
	data, _ := object.Encode(a)
	d := func(ops ...api.DeltaOp) string {
		s, _ := delta.Encode(ops)
		return s
	}
	whole := func(x api.Digest, s string) string { return parts.Digest(x) + "\x00" + parts.Text(s) }
	by := func(x, base api.Digest, s string) string {
		return parts.Digest(x) + "\x01" + parts.Digest(base) + parts.Text(s)
	}
	copyAll := d(api.DeltaOp{Length: len(data)})
	other := digest.Of("\x01\x01z")
	for k, x := range []struct {
		body string
		e    api.Errno
	}{
		{"\x01" + whole(l[0], data), api.OK}, {"\x01" + whole(l[1], data), api.ErrDigest}, {"\x01" + whole(l[0], "x"), api.ErrDecode},
		{"\x01" + by(l[0], other, copyAll), api.ErrNotFound}, {"\x01" + by(l[0], l[0], copyAll), api.OK}, {"\x01" + by(l[1], l[0], copyAll), api.ErrDigest},
		{"\x01" + by(l[1], l[0], "x"), api.ErrDecode}, {"\x01" + by(l[1], l[0], d(api.DeltaOp{Offset: 40, Length: 20})), api.ErrDecode}, {"\x01" + by(l[1], l[0], d(api.DeltaOp{Data: "x"})), api.ErrDecode},
		{"\x02" + by(other, l[1], d(api.DeltaOp{Length: 2}, api.DeltaOp{Data: "z"})) + whole(l[1], "bad"), api.ErrDecode},
		{"\x02" + by(other, l[1], d(api.DeltaOp{Length: 2}, api.DeltaOp{Data: "z"})) + whole(l[1], "\x01\x01b"), api.OK},
		{"\x02" + whole(l[1], "bad") + by(other, l[1], "bad"), api.ErrDecode},
		{"\x02" + whole(other, "\x01\x01y") + by(l[1], other, "bad"), api.ErrDigest},
	} {
		q, e := pack.Unpack(seal(x.body), p)
		if e != x.e || e != api.OK && len(q) != 0 {
			t.Error("P10.1: Unpack", k, e, x.e)
		}
		if e == api.OK && pool.Check(q) != api.OK {
			t.Error("P10.3", k)
		}
	}
	// The entry depends on one before it that is not right: this error comes first.
	s := seal("\x02" + whole(other, "\x01\x01y") + by(l[1], other, "bad"))
	if data, e := pack.Find(s, l[1], p); data != "" || e != api.ErrDigest {
		t.Error("P10.1: Find", e)
	}
	if data, e := pack.Find(s, l[0], p); data != "" || e != api.ErrNotFound {
		t.Error("P10.1: Find", e)
	}
	forged := api.Pool{{Digest: l[1], Data: "\x01\x01c"}}
	if q, e := pack.Unpack(seal("\x01"+whole(l[1], "\x01\x01b")), forged); e != api.ErrCollision || len(q) != 0 {
		t.Error("P10.1: collision", e)
	}
}

func TestErrors(t *testing.T) {
	p, l := blobs(t, "a", "b")
	w := parts.Digest(l[0]) + "\x00\x03\x01\x01a"
	for k, x := range []struct {
		s string
		e api.Errno
	}{
		{"", api.ErrShort}, {"123456789012345", api.ErrShort}, {strings.Repeat("x", 16), api.ErrChecksum}, {seal(""), api.ErrDecode}, {seal("\x01" + w + "\x00"), api.ErrDecode},
		{seal("\x02" + w + w), api.ErrDecode}, {seal("\x01" + w[:18]), api.ErrDecode}, {seal("\x01" + w[:16] + "\x02\x00"), api.ErrDecode}, {seal("\xe9\x07"), api.ErrDecode}, {seal("\x00"), api.OK},
	} {
		if y, e := pack.Entries(x.s); e != x.e || len(y) != 0 {
			t.Error("P10.1: Entries", k, e)
		}
		if x.e == api.OK {
			continue
		}
		if s, e := pack.Find(x.s, l[0], p); s != "" || e != x.e {
			t.Error("P10.1: Find", k, e)
		}
		if q, e := pack.Unpack(x.s, p); len(q) != 0 || e != x.e {
			t.Error("P10.1: Unpack", k, e)
		}
	}
	for k, x := range []struct {
		l, base []api.Digest
		e       api.Errno
	}{
		{make([]api.Digest, 1001), nil, api.ErrLimit}, {[]api.Digest{l[0], l[0]}, nil, api.ErrExists}, {[]api.Digest{l[0], {1}, l[0]}, nil, api.ErrNotFound},
		{l, []api.Digest{{1}}, api.ErrNotFound}, {slices.Concat(l, l), []api.Digest{{1}}, api.ErrExists},
	} {
		if s, e := pack.Pack(p, x.l, x.base); s != "" || e != x.e {
			t.Error("P10.1: Pack", k, e)
		}
	}
}
