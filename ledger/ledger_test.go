package ledger_test

import (
	"fmt"
	"slices"
	"strings"
	"testing"

	"cordwood/api"
	"cordwood/digest"
	"cordwood/ledger"
)

func same(a, b any) bool { return fmt.Sprint(a) == fmt.Sprint(b) }

func record(i int) api.Record {
	return api.Record{Time: i / 2, Who: "ann", What: "land", Data: fmt.Sprint(i)}
}

func sample(t *testing.T, n int) api.Ledger {
	t.Helper()
	var l api.Ledger
	for i := range n {
		before := ledger.Head(l)
		next, e := ledger.Append(l, record(i))
		if e != api.OK || !slices.Equal(next.Records[:i], l.Records) {
			t.Fatal("P56.5: Append", e)
		}
		p, e := ledger.Extend(next, i)
		if e != api.OK || !ledger.Extends(before, i, ledger.Head(next), i+1, p) {
			t.Error("P56.5", i, e)
		}
		l = next
	}
	return l
}

func leaf(r api.Record) api.Digest {
	text := string([]byte{byte(r.Time), byte(len(r.Who))}) + r.Who + string([]byte{byte(len(r.What))}) + r.What + string([]byte{byte(len(r.Data))}) + r.Data
	return digest.Of(text)
}

func TestExample(t *testing.T) {
	one, three := sample(t, 1), sample(t, 3)
	if p, e := ledger.Prove(one, 0); e != api.OK || len(p) != 0 {
		t.Error("P56.1", p, e)
	}
	if p, e := ledger.Prove(three, 2); e != api.OK || !slices.Equal(p, []api.Digest{digest.Root([]api.Digest{leaf(record(0)), leaf(record(1))})}) {
		t.Error("P56.1", p, e)
	}
	if p, e := ledger.Extend(three, 2); e != api.OK || !slices.Equal(p, []api.Digest{digest.Root([]api.Digest{leaf(record(2))})}) {
		t.Error("P56.1", p, e)
	}
	if ledger.Head(api.Ledger{}) != digest.Of("") || ledger.Head(one) != digest.Root([]api.Digest{leaf(record(0))}) {
		t.Error("P56.1: Head")
	}
}

func TestProofs(t *testing.T) {
	for m := range 18 {
		l := sample(t, m)
		head := ledger.Head(l)
		for i := range m {
			p, e := ledger.Prove(l, i)
			if e != api.OK || !ledger.Holds(head, m, i, record(i), p) {
				t.Error("P56.2", m, i, e)
			}
			for k := range m {
				if k != i && ledger.Holds(head, m, i, record(k), p) {
					t.Error("P56.4", m, i, k)
				}
			}
			bad := record(i)
			bad.Who = ""
			if ledger.Holds(head, m, i, bad, p) {
				t.Error("P56.1: Holds")
			}
		}
		for n := range m + 1 {
			old := ledger.Head(api.Ledger{Records: l.Records[:n]})
			p, e := ledger.Extend(l, n)
			if e != api.OK || !ledger.Extends(old, n, head, m, p) || (n == 0 || n == m) != (len(p) == 0) {
				t.Error("P56.3", n, m, e)
			}
			if ledger.Extends(old, n, head, m, append(p, head)) || n > 0 && ledger.Extends(api.Digest{1}, n, head, m, p) || n > 0 && ledger.Extends(old, n, api.Digest{1}, m, p) {
				t.Error("P56.1: Extends", n, m)
			}
			if len(p) > 0 && (ledger.Extends(old, n, head, m, p[1:]) || ledger.Extends(old, n, head, m, p[:len(p)-1]) || ledger.Extends(old, n, head, m, nil)) {
				t.Error("P56.1: Extends", n, m)
			}
		}
	}
	empty := digest.Of("")
	for k, x := range []struct {
		n, m int
		ok   bool
	}{{0, 0, true}, {0, 10000, true}, {0, 10001, false}, {-1, 5, false}, {5, 4, false}, {1 << 62, 1 << 62, false}} {
		if ledger.Extends(empty, x.n, api.Digest{9}, x.m, nil) != x.ok {
			t.Error("P56.1: Extends", k)
		}
	}
	if ledger.Extends(api.Digest{1}, 0, api.Digest{9}, 5, nil) || !ledger.Extends(api.Digest{9}, 5, api.Digest{9}, 5, nil) {
		t.Error("P56.1: Extends")
	}
}

func TestErrors(t *testing.T) {
	good := record(4)
	change := func(f func(r *api.Record)) api.Ledger {
		r := good
		f(&r)
		return api.Ledger{Records: []api.Record{good, r}}
	}
	full := api.Ledger{Records: slices.Repeat([]api.Record{good}, 10000)}
	over := api.Ledger{Records: append(slices.Clone(full.Records), api.Record{})}
	for k, x := range []struct {
		l api.Ledger
		e api.Errno
	}{
		{api.Ledger{}, api.OK}, {full, api.OK}, {over, api.ErrFull}, {change(func(r *api.Record) { r.Time = -1 }), api.ErrArgument}, {change(func(r *api.Record) { r.Time = 1<<40 + 1 }), api.ErrArgument}, {change(func(r *api.Record) { r.Time = 1; r.Who = "" }), api.ErrArgument}, {change(func(r *api.Record) { r.Who = strings.Repeat("a", 25) }), api.ErrArgument}, {change(func(r *api.Record) { r.What = "a b" }), api.ErrArgument}, {change(func(r *api.Record) { r.Who = ".." }), api.OK}, {change(func(r *api.Record) { r.Data = strings.Repeat("x", 65537) }), api.ErrArgument}, {change(func(r *api.Record) { r.Data = strings.Repeat("x", 65536) }), api.OK}, {change(func(r *api.Record) { r.Time = 1 }), api.ErrOrder},
	} {
		if e := ledger.Check(x.l); e != x.e {
			t.Error("P56.1: Check", k, e)
		}
		if x.e == api.OK {
			continue
		}
		if l, e := ledger.Append(x.l, api.Record{}); e != x.e || len(l.Records) != 0 {
			t.Error("P56.1: Append", k, e)
		}
		if p, e := ledger.Prove(x.l, -1); e != x.e || len(p) != 0 {
			t.Error("P56.1: Prove", k, e)
		}
		if p, e := ledger.Extend(x.l, -1); e != x.e || len(p) != 0 {
			t.Error("P56.1: Extend", k, e)
		}
		if ledger.Head(x.l) != (api.Digest{}) {
			t.Error("P56.1: Head", k)
		}
	}
	early := good
	early.Time = 0
	for k, x := range []struct {
		r api.Record
		e api.Errno
	}{{api.Record{}, api.ErrArgument}, {early, api.ErrOrder}, {good, api.ErrFull}} {
		if l, e := ledger.Append(full, x.r); e != x.e || !same(l, api.Ledger{}) {
			t.Error("P56.1: Append", k, e)
		}
	}
	three := sample(t, 3)
	for _, i := range []int{-1, 3} {
		if _, e := ledger.Prove(three, i); e != api.ErrRange {
			t.Error("P56.1: Prove", e)
		}
	}
	for _, n := range []int{-1, 4} {
		if _, e := ledger.Extend(three, n); e != api.ErrRange {
			t.Error("P56.1: Extend", e)
		}
	}
}
