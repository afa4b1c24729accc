package disk_test

import (
	"fmt"
	"math/rand"
	"strings"
	"testing"

	"cordwood/api"
	"cordwood/disk"
)

func same(a, b any) bool { return fmt.Sprintf("%q", a) == fmt.Sprintf("%q", b) }

func write(t *testing.T, d api.Disk, i int, s string) api.Disk {
	t.Helper()
	d, e := disk.Write(d, i, s)
	if e != api.OK {
		t.Fatal("P5.1: Write", e)
	}
	return d
}

func read(t *testing.T, d api.Disk, i int) string {
	t.Helper()
	s, e := disk.Read(d, i)
	if e != api.OK {
		t.Fatal("P5.1: Read", e)
	}
	return s
}

func TestExample(t *testing.T) {
	d, e := disk.New(2, 3)
	if e != api.OK || d.Left != -1 || read(t, d, 0) != "\x00\x00\x00" {
		t.Error("P5.1: New", d, e)
	}
	d = write(t, d, 1, "abc")
	if read(t, d, 1) != "abc" || read(t, d, 0) != "\x00\x00\x00" {
		t.Error("P5.2")
	}
	for pick, want := range map[int]string{2: "ab\x00", -3: "abc", 0: "\x00\x00\x00", 4: "\x00\x00\x00", 7: "abc", -1 << 63: "\x00\x00\x00"} {
		if c := disk.Cut(d, []int{pick}); read(t, c, 1) != want || len(c.Pending) != 0 || c.Left != -1 {
			t.Errorf("P5.4: %d %q", pick, read(t, c, 1))
		}
	}
	if c := disk.Cut(d, nil); read(t, c, 1) != "\x00\x00\x00" {
		t.Error("P5.4")
	}
	d = write(t, d, 1, "xyz")
	if c := disk.Cut(d, []int{3, 1}); read(t, c, 1) != "xbc" {
		t.Error("P5.1: Cut in order")
	}
	s, e := disk.Sync(d)
	if e != api.OK || read(t, s, 1) != "xyz" || len(s.Pending) != 0 || !same(disk.Cut(s, []int{1, 2}), s) {
		t.Error("P5.3")
	}
	if read(t, d, 1) != "xyz" || len(d.Pending) != 2 {
		t.Error("R3")
	}
}

func TestPower(t *testing.T) {
	for n := range 5 {
		d, _ := disk.New(2, 1)
		d.Left = n
		for k := range 8 {
			next, e := disk.Write(d, k%2, string(rune('a'+k)))
			if k%3 == 2 {
				next, e = disk.Sync(d)
			}
			if k < n != (e == api.OK) || k >= n && (e != api.ErrLost || !same(next, d)) {
				t.Error("P5.5", n, k, e)
			}
			d = next
			read(t, d, 0)
		}
	}
}

func TestBranches(t *testing.T) {
	d, _ := disk.New(1, 1)
	d = write(t, d, 0, "a")
	x, y := write(t, d, 0, "x"), write(t, d, 0, "y")
	if read(t, x, 0) != "x" || read(t, y, 0) != "y" || read(t, d, 0) != "a" {
		t.Error("R3: two writes after the same disk")
	}
}

func TestRandom(t *testing.T) {
	r := rand.New(rand.NewSource(1))
	for range 50 {
		d, _ := disk.New(4, 2)
		want := []string{"\x00\x00", "\x00\x00", "\x00\x00", "\x00\x00"}
		for range 30 {
			i, s := r.Intn(4), fmt.Sprint(10+r.Intn(90))
			if r.Intn(4) == 0 {
				d, _ = disk.Sync(d)
			} else {
				d, want[i] = write(t, d, i, s), s
			}
			for k := range want {
				if read(t, d, k) != want[k] {
					t.Fatal("P5.2")
				}
			}
		}
		all := disk.Cut(d, []int{2, 2, 2, 2, 2, 2, 2, 2, 2, 2, 2, 2, 2, 2, 2, 2, 2, 2, 2, 2, 2, 2, 2, 2, 2, 2, 2, 2, 2, 2})
		none := disk.Cut(d, nil)
		for k := range want {
			if read(t, all, k) != want[k] || none.Sectors[k] != d.Sectors[k] {
				t.Error("P5.4")
			}
		}
	}
}

func TestErrors(t *testing.T) {
	for _, x := range [][2]int{{0, 1}, {1001, 1}, {1, 0}, {1, 513}, {-1, -1}} {
		if d, e := disk.New(x[0], x[1]); !same(d, api.Disk{}) || e != api.ErrRange {
			t.Error("P5.1: New", x, e)
		}
	}
	if d, e := disk.New(1000, 512); e != api.OK || disk.Check(d) != api.OK || len(d.Sectors[999]) != 512 {
		t.Error("P5.1: New", e)
	}
	one := []string{"a"}
	for k, x := range []struct {
		d api.Disk
		e api.Errno
	}{
		{api.Disk{}, api.ErrRange}, {api.Disk{Size: 513, Sectors: []string{strings.Repeat("a", 513)}}, api.ErrRange},
		{api.Disk{Size: 2, Sectors: one}, api.ErrMismatch}, {api.Disk{Size: 1, Sectors: make([]string, 1001)}, api.ErrRange},
		{api.Disk{Size: 1, Sectors: one, Pending: []api.Write{{Sector: 1, Data: "a"}}}, api.ErrRange}, {api.Disk{Size: 1, Sectors: one, Pending: []api.Write{{Sector: -1, Data: "a"}}}, api.ErrRange},
		{api.Disk{Size: 1, Sectors: one, Pending: []api.Write{{Sector: 0, Data: "ab"}}}, api.ErrMismatch}, {api.Disk{Size: 1, Sectors: one, Left: -2}, api.ErrRange},
		{api.Disk{Size: 1, Sectors: one, Pending: []api.Write{{Sector: 0, Data: "b"}}, Left: 9}, api.OK},
	} {
		if e := disk.Check(x.d); e != x.e {
			t.Error("P5.1: Check", k, e)
		}
		if x.e == api.OK {
			continue
		}
		if s, e := disk.Read(x.d, 5); s != "" || e != api.ErrArgument {
			t.Error("P5.1: Read", k, e)
		}
		if d, e := disk.Write(x.d, 0, ""); !same(d, api.Disk{}) || e != api.ErrArgument {
			t.Error("P5.1: Write", k, e)
		}
		if d, e := disk.Sync(x.d); !same(d, api.Disk{}) || e != api.ErrArgument {
			t.Error("P5.1: Sync", k, e)
		}
		if d := disk.Cut(x.d, []int{1}); !same(d, api.Disk{}) {
			t.Error("P5.1: Cut", k)
		}
	}
	d := api.Disk{Size: 1, Sectors: one}
	for _, i := range []int{-1, 1} {
		if s, e := disk.Read(d, i); s != "" || e != api.ErrRange {
			t.Error("P5.1: Read", e)
		}
		if d, e := disk.Write(d, i, "ab"); !same(d, api.Disk{}) || e != api.ErrRange {
			t.Error("P5.1: Write", e)
		}
	}
	if d, e := disk.Write(d, 0, "ab"); !same(d, api.Disk{}) || e != api.ErrMismatch {
		t.Error("P5.1: Write", e)
	}
}
