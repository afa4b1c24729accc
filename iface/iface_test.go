package iface_test

import (
	"fmt"
	"slices"
	"strings"
	"testing"

	"cordwood/api"
	"cordwood/bind"
	"cordwood/iface"
	"cordwood/infer"
	"cordwood/parser"
	"cordwood/types"
)

func same(a, b any) bool { return fmt.Sprint(a) == fmt.Sprint(b) }

func scheme(t *testing.T, s string) api.Scheme {
	t.Helper()
	x, e := types.Parse(s)
	if e != api.OK {
		t.Fatal(s, e)
	}
	return x
}

func module(t *testing.T, label, s string, known ...api.Interface) api.Module {
	t.Helper()
	f, _, e := parser.Parse(s)
	if e != api.OK {
		t.Fatal(s, e)
	}
	m, e := bind.Bind(label, f, known)
	if e != api.OK {
		t.Fatal(s, e)
	}
	return m
}

func of(t *testing.T, label, s string, known ...api.Interface) api.Interface {
	t.Helper()
	i, e := iface.Of(module(t, label, s, known...), known)
	if e != api.OK || iface.Check(i) != api.OK {
		t.Fatal("P26.2", s, e)
	}
	return i
}

func TestExample(t *testing.T) {
	i := of(t, "m", "pub let f @3 = (fun x -> x) ; let g @4 = 1 ;")
	if !same(i, api.Interface{Label: "m", Sigs: []api.Sig{{Id: 3, Name: "f", Scheme: scheme(t, "(a -> a)")}}}) {
		t.Error("P26.1", i)
	}
	less := i
	less.Sigs = []api.Sig{{Id: 3, Name: "f", Scheme: scheme(t, "(int -> int)")}}
	if iface.Fits(i, less) || !iface.Fits(less, i) || !iface.Fits(i, i) || !iface.Fits(less, less) {
		t.Error("P26.1: Fits")
	}
}

func TestFits(t *testing.T) {
	a := of(t, "m", "pub let f @3 = (fun x -> x) ; pub let g @4 = nil ;")
	b := of(t, "m", "pub let f @3 = (fun x -> x) ; pub let g @4 = nil ; pub let h @5 = 1 ;")
	c := of(t, "m", "pub let f @3 = (fun x -> x) ; pub let k @4 = nil ;")
	d := of(t, "n", "pub let f @3 = (fun x -> x) ; pub let g @4 = nil ;")
	e := of(t, "m", "pub let f @3 = (fun x -> (x + 1)) ; pub let g @4 = (1 :: nil) ;")
	for k, x := range []struct {
		old, new api.Interface
		ok       bool
	}{{a, b, true}, {b, a, false}, {a, c, false}, {a, d, false}, {e, a, true}, {e, b, true}, {a, e, false}, {api.Interface{}, a, false}, {a, api.Interface{}, false}} {
		if iface.Fits(x.old, x.new) != x.ok {
			t.Error("P26.4", k)
		}
	}
	client := "use m ; pub let u @1 = (m.f 1) ; pub let v @2 = (1 :: m.g) ;"
	old := of(t, "c", client, e)
	if i, err := iface.Of(module(t, "c", client, e), []api.Interface{b}); err != api.OK || !iface.Fits(old, i) {
		t.Error("P26.6", err)
	}
	m := module(t, "c", "use m ; pub let u @1 = (m.f 1) ;", a)
	needs := iface.Needs(m, "m")
	n, err := iface.Narrow(a, needs)
	x, _, f := infer.Module(m, []api.Interface{a})
	y, _, g := infer.Module(m, []api.Interface{n})
	if err != api.OK || f != api.OK || g != api.OK || !same(x, y) || !slices.Equal(needs, []int{3}) || len(n.Sigs) != 1 {
		t.Error("P26.5", err, f, g)
	}
	if l := iface.Needs(module(t, "c", "let a @1 = a ; let b @2 = a ;"), ""); !slices.Equal(l, []int{1}) {
		t.Error("P26.1: Needs", l)
	}
	if _, e := iface.Of(m, nil); e != api.ErrScope {
		t.Error("P26.1: Of", e)
	}
	if i, e := iface.Of(module(t, "c", "let a @1 = (1 + nil) ;"), nil); e != api.ErrType || !same(i, api.Interface{}) {
		t.Error("P26.1: Of", e)
	}
}

func TestEncoding(t *testing.T) {
	i := of(t, "a/b", "pub let f @3 = (fun x -> (x :: nil)) ; pub test g @300 = true ; pub let h @301 = (fun f -> (fun x -> (f (x + 1)))) ;")
	s, e := iface.Encode(i)
	if back, f := iface.Decode(s); e != api.OK || f != api.OK || !same(back, i) {
		t.Error("P26.3", e, f)
	}
	one := of(t, "m", "pub let f @3 = (fun x -> x) ;")
	if s, e := iface.Encode(one); e != api.OK || s != "\x01m\x01\x03\x01f\x01\x04\x00\x02\x05\x00\x00\x05\x00\x00" {
		t.Errorf("P26.1: %q %d", s, e)
	}
	for k := range len(s) {
		bad := []byte(s)
		bad[k] ^= 1
		if x, e := iface.Decode(string(bad)); e == api.OK {
			if again, _ := iface.Encode(x); again != string(bad) {
				t.Error("P26.3", k)
			}
		} else if e != api.ErrDecode || !same(x, api.Interface{}) {
			t.Error("P26.3", k, e)
		}
		if x, e := iface.Decode(s[:k]); e != api.ErrDecode || !same(x, api.Interface{}) {
			t.Error("P26.3", k, e)
		}
	}
	if _, e := iface.Decode(s + "\x00"); e != api.ErrDecode {
		t.Error("P26.3", e)
	}
	if _, e := iface.Decode("\x01m\x01\x03\x01f\x00" + strings.Repeat("\x03\x00\x01", 70000)); e != api.ErrDecode {
		t.Error("P26.3", e)
	}
	if _, e := iface.Decode("\x01m\xff\xff\xff\xff\x01"); e != api.ErrDecode {
		t.Error("P26.3", e)
	}
}

func TestErrors(t *testing.T) {
	integer := scheme(t, "int")
	sig := func(id int, name string, s api.Scheme) api.Sig { return api.Sig{Id: id, Name: name, Scheme: s} }
	var many []api.Sig
	for i := range 101 {
		many = append(many, sig(i+1, fmt.Sprint("f", i), integer))
	}
	for k, x := range []struct {
		label string
		l     []api.Sig
		e     api.Errno
	}{
		{"A", many, api.ErrName}, {"m", many, api.ErrLimit}, {"m", many[:100], api.OK}, {"m", []api.Sig{sig(0, "", integer)}, api.ErrRange}, {"m", []api.Sig{sig(1000000, "a", integer)}, api.ErrRange}, {"m", []api.Sig{sig(1, "if", api.Scheme{})}, api.ErrName}, {"m", []api.Sig{sig(1, "a", api.Scheme{})}, api.ErrArgument},
		{"m", []api.Sig{sig(1, "a", api.Scheme{Type: api.Type{Kind: api.VarType}})}, api.ErrArgument}, {"m", []api.Sig{sig(2, "a", integer), sig(2, "a", integer)}, api.ErrOrder}, {"m", []api.Sig{sig(1, "a", integer), sig(2, "a", integer)}, api.ErrExists},
	} {
		i := api.Interface{Label: x.label, Sigs: x.l}
		if e := iface.Check(i); e != x.e {
			t.Error("P26.1: Check", k, e)
		}
		if x.e == api.OK {
			continue
		}
		if s, e := iface.Encode(i); s != "" || e != x.e {
			t.Error("P26.1: Encode", k, e)
		}
		if y, e := iface.Narrow(i, []int{7}); e != x.e || !same(y, api.Interface{}) {
			t.Error("P26.1: Narrow", k, e)
		}
	}
	i := api.Interface{Label: "m", Sigs: many[:3]}
	if y, e := iface.Narrow(i, []int{1, 9}); e != api.ErrNotFound || !same(y, api.Interface{}) {
		t.Error("P26.1: Narrow", e)
	}
	if y, e := iface.Narrow(i, []int{3, 1, 3}); e != api.OK || len(y.Sigs) != 2 || y.Sigs[1].Id != 3 {
		t.Error("P26.1: Narrow", y, e)
	}
}
