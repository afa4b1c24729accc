package journal_test

import (
	"strings"
	"testing"

	"cordwood/api"
	"cordwood/disk"
	"cordwood/journal"
)

func TestExactFit(t *testing.T) {
	// An area of two sectors of four bytes has room for a record of four bytes: the flag, two sizes and the record's own one.
	d := format(t, 5, 4)
	d, e := journal.Append(d, []string{"abcd"})
	if l := records(t, d); e != api.OK || len(l) != 1 || l[0] != "abcd" {
		t.Error("P6.2", l, e)
	}
	if n, e := journal.Room(d); n != 0 || e != api.OK {
		t.Error("P6.1", n, e)
	}
	for _, s := range []string{"\x01\x07\x01\x05", "\x01\x08\x01\x06"} {
		bad := format(t, 5, 4)
		bad, _ = disk.Write(bad, 1, s)
		if _, e := journal.Records(bad); e != api.ErrDecode {
			t.Error("P6.1: a frame that leaves the area", e)
		}
	}
}

func TestFormat(t *testing.T) {
	for _, n := range []int{3, 4, 5, 8, 9} {
		d := api.Disk{Size: 2, Left: -1}
		for range n {
			d.Sectors = append(d.Sectors, "\xff\xff")
		}
		f, e := journal.Format(d)
		h := (n - 1) / 2
		for i, s := range f.Sectors {
			want := "\xff\xff"
			if i == 0 {
				want = "\x01\x00"
			} else if i == 1 || i == 1+h {
				want = "\x00\x00"
			}
			if s != want || e != api.OK {
				t.Error("P6.1: Format", n, i, e)
			}
		}
		x, e := journal.Rewrite(f, nil)
		if l, g := journal.Records(x); e != api.OK || g != api.OK || len(l) != 0 || strings.Count(x.Sectors[0], "\x02") != 1 {
			t.Error("P6.2", n, e, g)
		}
	}
}
