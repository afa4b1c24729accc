package delta_test

import (
	"math/rand"
	"slices"
	"strings"
	"testing"

	"cordwood/api"
	"cordwood/delta"
)

type ops = []api.DeltaOp

func copyOf(offset, length int) api.DeltaOp { return api.DeltaOp{Offset: offset, Length: length} }
func insert(s string) api.DeltaOp           { return api.DeltaOp{Data: s} }

func random(r *rand.Rand, n int) string {
	b := make([]byte, n)
	for i := range b {
		b[i] = "ab"[r.Intn(2)]
	}
	return string(b)
}

// plain is the difference as the chapter says.
func plain(a, b string) ops {
	var l ops
	for i := 0; i < len(b); {
		n, at := 0, -1
		for k := i + 4; k <= len(b); k++ {
			if o := strings.Index(a, b[i:k]); o >= 0 {
				n, at = k-i, o
			}
		}
		op := copyOf(at, n)
		if n == 0 {
			op, n = insert(b[i:i+1]), 1
		}
		if k := len(l) - 1; k >= 0 && op.Length == 0 && l[k].Length == 0 {
			l[k].Data += op.Data
		} else if k >= 0 && op.Length > 0 && l[k].Length > 0 && l[k].Offset+l[k].Length == op.Offset {
			l[k].Length += op.Length
		} else {
			l = append(l, op)
		}
		i += n
	}
	return l
}

func TestDiff(t *testing.T) {
	if l := delta.Diff("abcdefgh", "xcdefghab"); !slices.Equal(l, ops{insert("x"), copyOf(2, 6), insert("ab")}) {
		t.Error("P4.1", l)
	}
	r := rand.New(rand.NewSource(1))
	for range 300 {
		a, b := random(r, r.Intn(60)), random(r, r.Intn(60))
		l := delta.Diff(a, b)
		if !slices.Equal(l, plain(a, b)) {
			t.Fatal("P4.1", a, b, l)
		}
		if s, e := delta.Apply(a, l); s != b || e != api.OK || delta.Size(l) != len(b) {
			t.Error("P4.2", a, b)
		}
		for _, op := range l {
			if op.Length > 0 && op.Length < 4 {
				t.Error("P4.5", op)
			}
		}
		if len(a) >= 4 && !slices.Equal(delta.Diff(a, a), ops{copyOf(0, len(a))}) {
			t.Error("P4.5", a)
		}
		if len(a) > 0 && !slices.Equal(delta.Diff("", a), ops{insert(a)}) {
			t.Error("P4.5", a)
		}
		s, e := delta.Encode(l)
		back, f := delta.Decode(s)
		if e != api.OK || f != api.OK || !slices.Equal(back, l) {
			t.Error("P4.4", e, f)
		}
		c := random(r, r.Intn(60))
		m := delta.Diff(b, c)
		both, e := delta.Compose(len(a), l, m)
		if s, _ := delta.Apply(a, both); s != c || e != api.OK {
			t.Error("P4.3", e)
		}
		if whole, _ := delta.Compose(len(a), l, delta.Diff(b, b)); len(b) >= 4 && !slices.Equal(whole, l) {
			t.Error("P4.3")
		}
	}
	long := strings.Repeat("a", 65536)
	if l := delta.Diff(long, strings.Repeat(long[:99]+"b", 600)); delta.Size(l) != 60000 {
		t.Error("P4.2")
	}
	if len(delta.Diff(long+"a", "")) != 0 || len(delta.Diff("", long+"a")) != 0 {
		t.Error("P4.1")
	}
}

func TestCompose(t *testing.T) {
	l, e := delta.Compose(9, ops{copyOf(0, 3), copyOf(3, 3), insert("x")}, ops{copyOf(1, 4), copyOf(6, 1), insert("y"), insert("z"), copyOf(0, 1), copyOf(1, 1)})
	if !slices.Equal(l, ops{copyOf(1, 4), insert("xyz"), copyOf(0, 2)}) || e != api.OK {
		t.Error("P4.3", l, e)
	}
	if l, e := delta.Compose(2, ops{copyOf(0, 3)}, nil); len(l) != 0 || e != api.ErrRange {
		t.Error("P4.1", e)
	}
	if l, e := delta.Compose(3, ops{copyOf(0, 2)}, ops{copyOf(0, 3)}); len(l) != 0 || e != api.ErrRange {
		t.Error("P4.1", e)
	}
}

func TestCheck(t *testing.T) {
	long := strings.Repeat("a", 65536)
	for k, x := range []struct {
		l ops
		n int
		e api.Errno
	}{
		{nil, 0, api.OK}, {nil, -1, api.ErrRange}, {nil, 65537, api.ErrRange}, {ops{copyOf(0, 3)}, 3, api.OK},
		{ops{{}}, 9, api.ErrArgument}, {ops{{Offset: 1, Data: "x"}}, 9, api.ErrArgument}, {ops{{Length: 1, Data: "x"}}, 9, api.ErrArgument},
		{ops{{Length: -1}}, 9, api.ErrArgument}, {ops{copyOf(-1, 2)}, 9, api.ErrRange}, {ops{copyOf(8, 2)}, 9, api.ErrRange},
		{ops{copyOf(1<<63-1, 1<<62)}, 9, api.ErrRange}, {ops{insert(long)}, 0, api.OK}, {ops{insert(long), insert("a")}, 0, api.ErrLimit},
		{ops{insert(long), copyOf(0, 1), {}}, 1, api.ErrLimit},
	} {
		if e := delta.Check(x.l, x.n); e != x.e {
			t.Error("P4.1", k, e)
		}
	}
	if s, e := delta.Apply("ab", ops{copyOf(0, 3)}); s != "" || e != api.ErrRange {
		t.Error("P4.1", e)
	}
	if delta.Size(ops{copyOf(0, 65537)}) != 0 || delta.Size(ops{copyOf(0, 3), insert("xy")}) != 5 {
		t.Error("P4.1: Size")
	}
}

func TestEncoding(t *testing.T) {
	if s, e := delta.Encode(ops{copyOf(5, 3)}); s != "\x01\x03\x05" || e != api.OK {
		t.Errorf("P4.1: %x", s)
	}
	if s, e := delta.Encode(ops{{}}); s != "" || e != api.ErrArgument {
		t.Error("P4.1", e)
	}
	for _, s := range []string{"", "\x01", "\x01\x00\x00", "\x01\x03\x05\x00", "\x02\x03\x05", "\x01\x83\x00\x05", "\x01\x80\x80\x04\x01", "\xff\xff\xff\xff\x01"} {
		if l, e := delta.Decode(s); len(l) != 0 || e != api.ErrDecode {
			t.Errorf("P4.4: %x %d", s, e)
		}
	}
	if l, e := delta.Decode("\x00"); len(l) != 0 || e != api.OK {
		t.Error("P4.4", e)
	}
}
