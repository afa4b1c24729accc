package settle_test

import (
	"fmt"
	"math/rand"
	"strings"
	"testing"

	"cordwood/api"
	"cordwood/pool"
	"cordwood/repomerge"
	"cordwood/settle"
)

func same(a, b any) bool { return fmt.Sprintf("%v", a) == fmt.Sprintf("%v", b) }

func files(l ...string) []api.File {
	var f []api.File
	for i := 0; i < len(l); i += 2 {
		f = append(f, api.File{Path: l[i], Data: l[i+1]})
	}
	return f
}

func merged(t *testing.T, base, left, right []api.File) api.Merged {
	t.Helper()
	m, e := repomerge.Merge(base, left, right)
	if e != api.OK || settle.Check(m) != api.OK {
		t.Fatal("P37.1", e)
	}
	return m
}

// all has a merge with conflicts of all kinds.
func all(t *testing.T) api.Merged {
	return merged(t,
		files("a.pk", "let f @1 = (1 + -2) ; let g @2 = 1 ;", "b.pk", "let k @5 = 1 ;", "n", "1\n", "o", "x", "z", "same"),
		files("a.pk", "let x @1 = (3 + 4) ; let h @3 = 1 ;", "b.pk", "let k @5 = 2 ;", "n", "2\n", "p", "1", "z", "same"),
		files("a.pk", "let y @1 = (5 + 6) ; let g @2 = 2 ; let h @4 = 1 ;", "b.pk", "let k @5 = (chance 1 of 3) ;", "n", "3\n", "o", "y", "p", "2", "z", "same"))
}

func TestExample(t *testing.T) {
	m := merged(t, files("notes", "a"), files("notes", "b"), files("notes", "c"))
	if l := settle.List(m); !same(l, []api.Spot{{Pack: "notes", Kind: api.FileConflict}}) {
		t.Error("P37.1", l)
	}
	for side, want := range []string{"b", "a", "c"} {
		x, e := settle.Choose(m, 0, side)
		if e != api.OK || !same(x.Files, files("notes", want)) || !repomerge.Clean(x) {
			t.Error("P37.5", side, e)
		}
	}
}

func TestRoundTrip(t *testing.T) {
	m := all(t)
	var blob api.Digest
	p, blob, _ := pool.Put(nil, api.Object{Kind: api.BlobObject, Data: "x"})
	p, d, e := settle.Store(p, m)
	if x, f := settle.Load(p, d); e != api.OK || f != api.OK || !same(x, m) {
		t.Error("P37.2", e, f)
	}
	for d, want := range map[api.Digest]api.Errno{{}: api.ErrNotFound, blob: api.ErrKind} {
		if x, e := settle.Load(p, d); e != want || !same(x, api.Merged{}) {
			t.Error("P37.1: Load", e)
		}
	}
	o, _ := pool.Get(p, d)
	for k := range len(o.Data) {
		for _, s := range []string{o.Data[:k], o.Data[:k] + string([]byte{o.Data[k] ^ 1}) + o.Data[k+1:], o.Data[:k] + string([]byte{o.Data[k] ^ 2}) + o.Data[k+1:]} {
			q, bad, _ := pool.Put(nil, api.Object{Kind: api.ConflictObject, Data: s})
			x, e := settle.Load(q, bad)
			if e == api.OK {
				if _, again, f := settle.Store(nil, x); f != api.OK || again != bad || same(x, m) {
					t.Error("P37.2", k, f)
				}
			} else if e != api.ErrDecode || !same(x, api.Merged{}) {
				t.Error("P37.1: Load", k, e)
			}
		}
	}
	small := api.Merged{Modules: []api.Module{{Label: "m", Uses: []string{"a"}, Decls: []api.Decl{{Id: 7, Kind: 1, Public: true, Names: []string{"f"}, Body: api.Expr{Kind: 1, Int: -3}}}}}, Files: files("x", "y"), Texts: []api.TextConflict{{Path: "z", InLeft: true, Left: "w"}}}
	q, d, e := settle.Store(nil, small)
	o, _ = pool.Get(q, d)
	if want := "\x01\x01m\x01\x01a\x01\x07\x01\x01\x01\x01f\x00\x01\x00\x00\x01\x03\x00\x00\x01\x01x\x01y\x01\x01z\x00\x01\x00\x00\x01w\x00"; e != api.OK || o.Data != want {
		t.Errorf("P37.1: %q", o.Data)
	}
}

func TestChoose(t *testing.T) {
	m := all(t)
	list := settle.List(m)
	kinds := ""
	for _, s := range list {
		kinds += fmt.Sprint(s.Kind)
	}
	if kinds != "12234"+"2"+"555" {
		t.Error("P37.1: List", kinds)
	}
	r := rand.New(rand.NewSource(1))
	for range 50 {
		x := m
		for len(settle.List(x)) > 0 {
			if repomerge.Clean(x) {
				t.Error("P37.3")
			}
			i := r.Intn(len(settle.List(x)))
			next, e := settle.Choose(x, i, 2*r.Intn(2))
			if e != api.OK || settle.Check(next) != api.OK {
				t.Fatal("P37.3", e)
			}
			x = next
		}
		if !repomerge.Clean(x) {
			t.Error("P37.3")
		}
	}
	for i := range list {
		for k := i + 1; k < len(list); k++ {
			if list[i].Pack == list[k].Pack {
				continue
			}
			x, _ := settle.Choose(m, i, 0)
			x, e := settle.Choose(x, k-1, 2)
			y, _ := settle.Choose(m, k, 2)
			y, f := settle.Choose(y, i, 0)
			if list[i].Kind == api.NameConflict {
				continue
			}
			if e != api.OK || f != api.OK || !same(x, y) {
				t.Error("P37.4", i, k, e, f)
			}
		}
	}
	if x, e := settle.Choose(m, len(list)-2, 0); e != api.OK || !same(x.Files, files("z", "same")) {
		t.Error("P37.5: missing on this side", e)
	}
	for _, x := range [][2]int{{-1, 0}, {len(list), 0}, {0, 3}, {0, -1}, {3, 1}} {
		if y, e := settle.Choose(m, x[0], x[1]); e != api.ErrRange || !same(y, api.Merged{}) {
			t.Error("P37.1: Choose", x, e)
		}
	}
	if y, e := settle.Choose(api.Merged{Texts: []api.TextConflict{{Path: "a/b", InLeft: true}}, Files: files("a", "")}, 0, 0); e != api.ErrExists || !same(y, api.Merged{}) {
		t.Error("P37.1: Choose", e)
	}
}

func TestErrors(t *testing.T) {
	big := strings.Repeat("x", 65533)
	text := func(l ...api.TextConflict) api.Merged { return api.Merged{Texts: l, Files: files("f", "")} }
	for k, x := range []struct {
		m api.Merged
		e api.Errno
	}{
		{api.Merged{}, api.OK}, {api.Merged{Modules: []api.Module{{Label: "b"}, {Label: "A"}}}, api.ErrName}, {api.Merged{Modules: []api.Module{{Label: "b"}, {Label: "b"}}, Files: files("", "")}, api.ErrOrder}, {api.Merged{Files: files("b", "", "a", "")}, api.ErrOrder}, {api.Merged{Files: files("a.pk", "")}, api.ErrKind},
		{text(make([]api.TextConflict, 201)...), api.ErrLimit}, {text(api.TextConflict{}), api.ErrName}, {text(api.TextConflict{Path: "a.pk", Left: "x"}), api.ErrKind}, {text(api.TextConflict{Path: "a", Base: "x", Left: big}), api.ErrArgument}, {text(api.TextConflict{Path: "a", Left: "x"}), api.ErrArgument}, {text(api.TextConflict{Path: "a", Right: "x"}), api.ErrArgument}, {text(api.TextConflict{Path: "a", InRight: true, Right: big}), api.ErrLimit}, {text(api.TextConflict{Path: "b"}, api.TextConflict{Path: "a"}), api.ErrOrder}, {text(api.TextConflict{Path: "f"}), api.ErrExists}, {text(api.TextConflict{Path: "g"}), api.OK},
	} {
		if e := settle.Check(x.m); e != x.e {
			t.Error("P37.1: Check", k, e)
		}
		if x.e == api.OK {
			continue
		}
		if y, e := settle.Choose(x.m, 99, 99); e != x.e || !same(y, api.Merged{}) {
			t.Error("P37.1: Choose", k, e)
		}
		if p, d, e := settle.Store(nil, x.m); e != x.e || len(p) != 0 || d != (api.Digest{}) {
			t.Error("P37.1: Store", k, e)
		}
		if len(settle.List(x.m)) != 0 {
			t.Error("P37.1: List", k)
		}
	}
	if p, _, e := settle.Store(nil, api.Merged{Files: files("a", big[1:], "b", "x")}); e != api.ErrLimit || len(p) != 0 {
		t.Error("P37.1: Store", e)
	}
}
