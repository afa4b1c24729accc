package action_test

import (
	"fmt"
	"slices"
	"strings"
	"testing"

	"cordwood/action"
	"cordwood/api"
	"cordwood/digest"
)

func same(a, b any) bool { return fmt.Sprintf("%q", a) == fmt.Sprintf("%q", b) }

var g = api.Graph{Targets: []api.Target{{Label: "a", Kind: 1}, {Label: "b", Kind: 1, Deps: []string{"a"}}, {Label: "t", Kind: 2, Deps: []string{"b"}}}}

func files(l ...string) []api.File {
	var f []api.File
	for i := 0; i < len(l); i += 2 {
		f = append(f, api.File{Path: l[i], Data: l[i+1]})
	}
	return f
}

func TestInputs(t *testing.T) {
	for k, x := range []struct {
		label string
		kind  int
		l     []string
		e     api.Errno
	}{
		{"t", api.CompileAction, []string{"iface b", "source t"}, api.OK}, {"t", api.LinkAction, []string{"code a", "code b", "code t"}, api.OK}, {"t", api.TestAction, []string{"program t"}, api.OK}, {"b", api.CompileAction, []string{"iface a", "source b"}, api.OK}, {"b", api.LinkAction, nil, api.ErrKind}, {"t", 0, nil, api.ErrKind}, {"t", 4, nil, api.ErrKind}, {"z", 9, nil, api.ErrNotFound},
	} {
		if l, e := action.Inputs(g, x.label, x.kind); e != x.e || !slices.Equal(l, x.l) {
			t.Error("P41.1: Inputs", k, l, e)
		}
		if e := x.e; e != api.OK {
			if y, f := action.Make(g, x.label, x.kind, nil); f != e || !same(y, api.Ready{}) {
				t.Error("P41.1: Make", k, f)
			}
		}
	}
	other := api.Graph{Targets: append(slices.Clone(g.Targets), api.Target{Label: "u", Kind: 2, Deps: []string{"a"}})}
	if l, _ := action.Inputs(other, "t", api.LinkAction); len(l) != 3 {
		t.Error("P41.3", l)
	}
	if l, e := action.Inputs(api.Graph{Targets: []api.Target{{}}}, "t", 9); e != api.ErrArgument || len(l) != 0 {
		t.Error("P41.1: Inputs", e)
	}
}

func TestMake(t *testing.T) {
	x, e := action.Make(g, "b", api.CompileAction, files("source b", "B", "iface a", "A", "source b", "other", "iface z", "Z"))
	want := api.Ready{Action: api.Action{Kind: 1, Label: "b", Inputs: []api.Input{{Name: "iface a", Digest: digest.Of("A")}, {Name: "source b", Digest: digest.Of("B")}}}, Files: files("iface a", "A", "source b", "B")}
	if e != api.OK || !same(x, want) || action.Check(x.Action) != api.OK {
		t.Error("P41.1: Make", x, e)
	}
	if y, e := action.Make(g, "b", api.CompileAction, files("iface a", "A", "source b", "B")); e != api.OK || !same(x, y) {
		t.Error("P41.5", e)
	}
	if y, _ := action.Make(g, "b", api.CompileAction, files("iface a", "X", "source b", "B")); same(x.Files, y.Files) {
		t.Error("P41.5")
	}
	long := strings.Repeat("x", 65537)
	if y, e := action.Make(g, "b", api.CompileAction, files("source b", long)); e != api.ErrNotFound || !same(y, api.Ready{}) {
		t.Error("P41.1: Make", e)
	}
	if y, e := action.Make(g, "b", api.CompileAction, files("iface a", "", "source b", long)); e != api.ErrLimit || !same(y, api.Ready{}) {
		t.Error("P41.1: Make", e)
	}
	if y, e := action.Make(g, "b", api.CompileAction, files("iface a", "", "source b", long[1:])); e != api.OK || len(y.Files) != 2 {
		t.Error("P41.1: Make", e)
	}
}

func TestKeys(t *testing.T) {
	input := func(l ...string) []api.Input {
		var x []api.Input
		for _, s := range l {
			x = append(x, api.Input{Name: s})
		}
		return x
	}
	a := api.Action{Kind: 3, Label: "t", Inputs: []api.Input{{Name: "program t", Digest: api.Digest{1, 2}}}}
	if d, e := action.Key(a); e != api.OK || d != digest.Of("\x03\x01t\x01\x09program t\x10\x00\x00\x00\x00\x00\x00\x00\x01\x00\x00\x00\x00\x00\x00\x00\x02") {
		t.Error("P41.2", e)
	}
	var many []string
	for i := range 301 {
		many = append(many, fmt.Sprintf("code a%03d", i))
	}
	met := map[api.Digest]bool{}
	for k, x := range []struct {
		a api.Action
		e api.Errno
	}{
		{api.Action{Kind: 0, Label: "A"}, api.ErrKind}, {api.Action{Kind: 4}, api.ErrKind}, {api.Action{Kind: 1, Inputs: input(many...)}, api.ErrName}, {api.Action{Kind: 1, Label: "a", Inputs: input(many...)}, api.ErrLimit}, {api.Action{Kind: 1, Label: "a", Inputs: input(many[:300]...)}, api.OK}, {api.Action{Kind: 1, Label: "a", Inputs: input("code b", "code  a")}, api.ErrName}, {api.Action{Kind: 1, Label: "a", Inputs: input("code b", "code a")}, api.ErrOrder}, {api.Action{Kind: 1, Label: "a", Inputs: input("code a", "code a")}, api.ErrOrder}, {api.Action{Kind: 1, Label: "a", Inputs: input("code")}, api.ErrName}, {api.Action{Kind: 1, Label: "a", Inputs: input("sources a")}, api.ErrName}, {api.Action{Kind: 1, Label: "a", Inputs: input("source A")}, api.ErrName},
		{api.Action{Kind: 1, Label: "a"}, api.OK}, {api.Action{Kind: 2, Label: "a"}, api.OK}, {api.Action{Kind: 1, Label: "b"}, api.OK}, {api.Action{Kind: 1, Label: "a", Inputs: input("code a", "iface a", "program a", "source a", "verdict a")}, api.OK},
	} {
		if e := action.Check(x.a); e != x.e {
			t.Error("P41.1: Check", k, e)
		}
		d, e := action.Key(x.a)
		if e != x.e || (d == api.Digest{}) != (e != api.OK) || e == api.OK && met[d] {
			t.Error("P41.2", k, e)
		}
		met[d] = true
	}
}

func TestOutputs(t *testing.T) {
	long := strings.Repeat("x", 65537)
	var many []string
	for i := range 11 {
		many = append(many, fmt.Sprintf("code a%02d", i), "")
	}
	for k, x := range []struct {
		o api.Output
		s string
		e api.Errno
	}{
		{api.Output{}, "\x00\x00\x00", api.OK}, {api.Output{Failed: true, Message: "no"}, "\x01\x02no\x00", api.OK}, {api.Output{Files: files("code a", "C", "iface a", "")}, "\x00\x00\x02\x06code a\x01C\x07iface a\x00", api.OK}, {api.Output{Failed: true}, "", api.ErrArgument}, {api.Output{Failed: true, Message: long, Files: files("code a", "")}, "", api.ErrArgument}, {api.Output{Failed: true, Message: long[:301]}, "", api.ErrLimit}, {api.Output{Message: "x", Files: files(many...)}, "", api.ErrArgument}, {api.Output{Files: files(many...)}, "", api.ErrLimit},
		{api.Output{Files: files("x", long)}, "", api.ErrName}, {api.Output{Files: files("code b", "", "code a", long)}, "", api.ErrLimit}, {api.Output{Files: files("code b", "", "code a", "")}, "", api.ErrOrder}, {api.Output{Files: files("code a", "", "code a", "")}, "", api.ErrOrder},
	} {
		s, e := action.EncodeOutput(x.o)
		if s != x.s || e != x.e {
			t.Errorf("P41.1: EncodeOutput %d %q %d", k, s, e)
		}
		if e != api.OK {
			continue
		}
		if o, e := action.DecodeOutput(s); e != api.OK || !same(o, x.o) {
			t.Error("P41.4", k, e)
		}
		for i := range s {
			for _, bad := range []string{s[:i], s[:i] + string([]byte{s[i] ^ 1}) + s[i+1:], s + "\x00"} {
				if o, e := action.DecodeOutput(bad); e == api.OK {
					if again, _ := action.EncodeOutput(o); again != bad {
						t.Error("P41.4", k, i)
					}
				} else if e != api.ErrDecode || !same(o, api.Output{}) {
					t.Error("P41.4", k, i, e)
				}
			}
		}
	}
	for n, want := range map[int]api.Errno{300: api.OK, 301: api.ErrLimit} {
		if _, e := action.EncodeOutput(api.Output{Failed: true, Message: long[:n]}); e != want {
			t.Error("P41.1", n, e)
		}
	}
	if _, e := action.EncodeOutput(api.Output{Files: files("code a", long[1:])}); e != api.OK {
		t.Error("P41.1", e)
	}
}
