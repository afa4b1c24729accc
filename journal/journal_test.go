package journal_test

import (
	"fmt"
	"math/rand"
	"slices"
	"strings"
	"testing"

	"cordwood/api"
	"cordwood/disk"
	"cordwood/journal"
)

func format(t *testing.T, sectors, size int) api.Disk {
	t.Helper()
	d, _ := disk.New(sectors, size)
	d, e := journal.Format(d)
	if e != api.OK {
		t.Fatal("P6.1: Format", e)
	}
	return d
}

func records(t *testing.T, d api.Disk) []string {
	t.Helper()
	l, e := journal.Records(d)
	if e != api.OK {
		t.Fatal("P6.1: Records", e)
	}
	return l
}

func TestExample(t *testing.T) {
	d := format(t, 9, 4)
	d, e := journal.Append(d, []string{"ab"})
	if e != api.OK || d.Sectors[1] != "\x01\x04\x01\x02" || d.Sectors[2] != "ab\x00\x00" {
		t.Errorf("P6.1: %q %d", d.Sectors, e)
	}
	if n, e := journal.Room(d); n != 2 || e != api.OK {
		t.Error("P6.1: Room", n, e)
	}
	d, _ = journal.Append(d, []string{"c"})
	if l := records(t, d); !slices.Equal(l, []string{"ab", "c"}) {
		t.Error("P6.2", l)
	}
	if x, e := journal.Append(d, []string{"cdef"}); e != api.ErrFull || len(x.Sectors) != 0 {
		t.Error("P6.1", e)
	}
	d, e = journal.Rewrite(d, []string{"x", ""})
	if l := records(t, d); !slices.Equal(l, []string{"x", ""}) || e != api.OK || d.Sectors[0][0] != 2 || d.Sectors[5] != "\x01\x04\x02\x01" {
		t.Errorf("P6.2: %q %q", l, d.Sectors)
	}
	d, e = journal.Rewrite(d, nil)
	if n, _ := journal.Room(d); n != 4 || e != api.OK || d.Sectors[0] != "\x01\x00\x00\x00" || len(records(t, d)) != 0 {
		t.Error("P6.2", n, e)
	}
	if x, e := journal.Rewrite(d, []string{strings.Repeat("a", 20)}); e != api.ErrFull || len(x.Sectors) != 0 {
		t.Error("P6.1", e)
	}
}

// cuts calls a function with the disks after a change that loses power after each number of operations, with some picks.
func cuts(r *rand.Rand, d api.Disk, change func(api.Disk) (api.Disk, api.Errno), f func(api.Disk, bool)) {
	for left := 0; ; left++ {
		d.Left = left
		x, e := change(d)
		for range 4 {
			picks := make([]int, len(x.Pending))
			for i := range picks {
				picks[i] = r.Intn(100)
			}
			f(disk.Cut(x, picks), e == api.OK)
		}
		if e == api.OK {
			return
		}
	}
}

func TestAtomicity(t *testing.T) {
	r := rand.New(rand.NewSource(1))
	for range 60 {
		size := 1 + r.Intn(9)
		d := format(t, 21+r.Intn(30), size)
		for range 8 {
			before := records(t, d)
			var l []string
			for range r.Intn(3) {
				l = append(l, strings.Repeat("x", r.Intn(6)))
			}
			after := append(slices.Clone(before), l...)
			change := func(d api.Disk) (api.Disk, api.Errno) { return journal.Append(d, l) }
			if r.Intn(3) == 0 {
				after = l
				change = func(d api.Disk) (api.Disk, api.Errno) { return journal.Rewrite(d, l) }
			}
			next, e := change(d)
			if e == api.ErrFull {
				continue
			}
			if e != api.OK || !slices.Equal(records(t, next), after) {
				t.Fatal("P6.2", e)
			}
			cuts(r, d, change, func(c api.Disk, done bool) {
				l := records(t, c)
				if !slices.Equal(l, after) && (done || !slices.Equal(l, before)) {
					t.Fatalf("P6.3, P6.4: %q %q %q", before, after, l)
				}
			})
			d = next
		}
	}
}

func TestOldFrames(t *testing.T) {
	// After two Rewrites the area has frames of before behind the new ones, which must not come back.
	d := format(t, 9, 8)
	d, _ = journal.Append(d, []string{"one"})
	d, _ = journal.Append(d, []string{"two"})
	d, _ = journal.Append(d, []string{"three"})
	d, _ = journal.Rewrite(d, []string{"a"})
	d, _ = journal.Rewrite(d, []string{"b"})
	if l := records(t, d); !slices.Equal(l, []string{"b"}) {
		t.Error("P6.2", l)
	}
	d, _ = journal.Append(d, []string{"c"})
	if l := records(t, d); !slices.Equal(l, []string{"b", "c"}) {
		t.Error("P6.2", l)
	}
}

func TestErrors(t *testing.T) {
	small, _ := disk.New(2, 4)
	plain, _ := disk.New(5, 4)
	lost := format(t, 5, 4)
	lost.Left = 0
	change := func(sector int, s string) api.Disk {
		d := format(t, 5, 4)
		d, _ = disk.Write(d, sector, s)
		return d
	}
	for k, x := range []struct {
		d api.Disk
		e api.Errno
	}{
		{api.Disk{}, api.ErrRange}, {small, api.ErrRange}, {plain, api.ErrDecode}, {change(0, "\x03\x00\x00\x00"), api.ErrDecode},
		{change(1, "\x02\x01\x00\x00"), api.ErrDecode}, {change(1, "\x01\x09\x00\x00"), api.ErrDecode}, {change(1, "\x01\x02\x00\x00"), api.ErrDecode},
		{change(1, "\x01\x81\x00\x00"), api.ErrDecode}, {change(2, "\x07\x00\x00\x00"), api.OK}, {change(1, "\x01\x01\x00\xff"), api.OK}, {lost, api.OK},
		{api.Disk{Size: 1, Sectors: []string{"ab"}}, api.ErrMismatch},
	} {
		if l, e := journal.Records(x.d); len(l) != 0 || e != x.e {
			t.Error("P6.1: Records", k, e)
		}
		if n, e := journal.Room(x.d); e != x.e || e != api.OK && n != 0 {
			t.Error("P6.1: Room", k, e)
		}
		if d, e := journal.Append(x.d, nil); e != x.e || e != api.OK && len(d.Sectors) != 0 {
			t.Error("P6.1: Append", k, e)
		}
		if d, e := journal.Rewrite(x.d, nil); e != x.e && e != api.ErrLost || e != api.OK && e != api.ErrLost && len(d.Sectors) != 0 {
			t.Error("P6.1: Rewrite", k, e)
		}
		if d, e := journal.Format(x.d); x.e != api.ErrDecode && x.e != api.OK && (e != x.e || len(d.Sectors) != 0) {
			t.Error("P6.1: Format", k, e)
		}
	}
	for _, f := range []func(api.Disk, []string) (api.Disk, api.Errno){journal.Append, journal.Rewrite} {
		if d, e := f(lost, []string{"a"}); e != api.ErrLost || fmt.Sprint(d) != fmt.Sprint(lost) {
			t.Error("P6.1: lost", e)
		}
		if d, e := f(lost, make([]string, 1001)); e != api.ErrLimit || len(d.Sectors) != 0 {
			t.Error("P6.1: limit", e)
		}
	}
	if d, e := journal.Format(lost); e != api.ErrLost || len(d.Sectors) != 5 {
		t.Error("P6.1: Format", e)
	}
}
