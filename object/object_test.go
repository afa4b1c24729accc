package object_test

import (
	"fmt"
	"slices"
	"strings"
	"testing"

	"cordwood/api"
	"cordwood/digest"
	"cordwood/object"
)

type obj = api.Object

var (
	one, two = api.Digest{0, 1}, api.Digest{2, 0}
	commit   = obj{Kind: api.CommitObject, Tree: one, Parents: []api.Digest{two, one}, Author: "ann", Time: 5, Message: "hi"}
)

func same(a, b any) bool { return fmt.Sprintf("%q", a) == fmt.Sprintf("%q", b) }

func entries(n int) []api.Entry {
	var l []api.Entry
	for i := range n {
		l = append(l, api.Entry{Name: fmt.Sprintf("n%03d", i), Dir: i%2 == 1, Digest: one})
	}
	return l
}

func valid() []obj {
	return []obj{
		{Kind: api.BlobObject}, {Kind: api.BlobObject, Data: "hi"}, {Kind: api.ConflictObject, Data: "hi"}, {Kind: api.BlobObject, Data: strings.Repeat("a", 65532)},
		{Kind: api.TreeObject}, {Kind: api.TreeObject, Entries: entries(200)}, commit, {Kind: api.CommitObject, Tree: two, Author: "a", Time: 1 << 40, Message: strings.Repeat("m", 200)},
	}
}

func TestRoundTrip(t *testing.T) {
	met := map[string]bool{}
	for k, o := range valid() {
		s, e := object.Encode(o)
		if e != api.OK || object.Check(o) != api.OK || met[s] {
			t.Error("P7.2", k, e)
		}
		met[s] = true
		if back, e := object.Decode(s); e != api.OK || !same(back, o) {
			t.Error("P7.2", k, e)
		}
		if d, e := object.Name(o); d != digest.Of(s) || e != api.OK {
			t.Error("P7.3", k, e)
		}
		for _, bad := range []string{s[:len(s)-1], s + "\x00", "\x05" + s[1:], "\x81\x00" + s[1:]} {
			if back, e := object.Decode(bad); e != api.ErrDecode || !same(back, obj{}) {
				t.Error("P7.2", k, e)
			}
		}
	}
	if s, _ := object.Encode(obj{Kind: 1, Data: "hi"}); s != "\x01\x02hi" {
		t.Errorf("P7.1 %q", s)
	}
	if s, _ := object.Encode(obj{Kind: 2}); s != "\x02\x00" {
		t.Errorf("P7.1 %q", s)
	}
	want := "\x03" + strings.Repeat("\x00", 15) + "\x01\x01" + strings.Repeat("\x00", 7) + "\x02" + strings.Repeat("\x00", 8) + "\x03ann\x05\x02hi"
	c := commit
	c.Parents = c.Parents[:1]
	if s, _ := object.Encode(c); s != want {
		t.Errorf("P7.1 %q", s)
	}
	for _, s := range []string{"", "\x02\x01\x01a\x02" + strings.Repeat("\x01", 16), "\x02\x01\x01a\x01" + strings.Repeat("\x00", 16), "\x02\x01\x01/\x01" + strings.Repeat("\x01", 16)} {
		if _, e := object.Decode(s); e != api.ErrDecode {
			t.Errorf("P7.2 %q", s)
		}
	}
}

func TestLinks(t *testing.T) {
	for _, o := range valid() {
		n := len(o.Entries)
		if o.Kind == api.CommitObject {
			n = 1 + len(o.Parents)
		}
		if l := object.Links(o); len(l) != n || slices.Contains(l, api.Digest{}) {
			t.Error("P7.4", o.Kind)
		}
	}
	if l := object.Links(commit); !slices.Equal(l, []api.Digest{one, two, one}) {
		t.Error("P7.1", l)
	}
	if l := object.Links(obj{Kind: 3, Tree: one}); len(l) != 0 {
		t.Error("P7.1", l)
	}
}

func TestErrors(t *testing.T) {
	change := func(f func(*obj)) obj {
		o := commit
		f(&o)
		return o
	}
	tree := func(l ...api.Entry) obj { return obj{Kind: api.TreeObject, Entries: l} }
	for k, x := range []struct {
		o obj
		e api.Errno
	}{
		{obj{}, api.ErrKind}, {obj{Kind: 5, Data: "x"}, api.ErrKind}, {obj{Kind: -1}, api.ErrKind},
		{obj{Kind: 1, Time: 1}, api.ErrArgument}, {obj{Kind: 4, Message: "x"}, api.ErrArgument}, {obj{Kind: 1, Entries: entries(1)}, api.ErrArgument},
		{obj{Kind: 2, Data: "x"}, api.ErrArgument}, {obj{Kind: 2, Parents: []api.Digest{one}}, api.ErrArgument}, {obj{Kind: 2, Author: "a", Entries: entries(201)}, api.ErrArgument},
		{tree(entries(201)...), api.ErrLimit}, {tree(api.Entry{Name: "", Digest: one}), api.ErrName}, {tree(api.Entry{Name: ".."}), api.ErrName},
		{tree(api.Entry{Name: "b", Digest: one}, api.Entry{Name: "b"}), api.ErrOrder}, {tree(api.Entry{Name: "b", Digest: one}, api.Entry{Name: "a"}), api.ErrOrder}, {tree(api.Entry{Name: "b"}), api.ErrArgument},
		{change(func(o *obj) { o.Data = "x"; o.Tree = api.Digest{} }), api.ErrArgument}, {change(func(o *obj) { o.Entries = entries(1) }), api.ErrArgument},
		{change(func(o *obj) { o.Tree = api.Digest{}; o.Parents = make([]api.Digest, 9) }), api.ErrArgument}, {change(func(o *obj) { o.Parents = make([]api.Digest, 9) }), api.ErrLimit},
		{change(func(o *obj) { o.Parents = []api.Digest{one, {}} }), api.ErrArgument}, {change(func(o *obj) { o.Parents = []api.Digest{one, two, one}; o.Author = "" }), api.ErrExists},
		{change(func(o *obj) { o.Author = ""; o.Time = -1 }), api.ErrName}, {change(func(o *obj) { o.Time = -1; o.Message = strings.Repeat("x", 201) }), api.ErrRange}, {change(func(o *obj) { o.Time = 1<<40 + 1 }), api.ErrRange},
		{change(func(o *obj) { o.Message = strings.Repeat("x", 201) }), api.ErrLimit}, {obj{Kind: 1, Data: strings.Repeat("a", 65533)}, api.ErrLimit}, {obj{Kind: 4, Data: strings.Repeat("a", 70000)}, api.ErrLimit},
	} {
		if e := object.Check(x.o); e != x.e {
			t.Error("P7.1: Check", k, e, x.e)
		}
		if s, e := object.Encode(x.o); s != "" || e != x.e {
			t.Error("P7.1: Encode", k, e)
		}
		if d, e := object.Name(x.o); d != (api.Digest{}) || e != x.e {
			t.Error("P7.1: Name", k, e)
		}
		if len(object.Links(x.o)) != 0 {
			t.Error("P7.1: Links", k)
		}
	}
}
