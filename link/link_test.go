package link_test

import (
	"fmt"
	"math/rand"
	"slices"
	"testing"

	"cordwood/api"
	"cordwood/bind"
	"cordwood/compile"
	"cordwood/eval"
	"cordwood/link"
	"cordwood/machine"
	"cordwood/parser"
)

func same(a, b any) bool { return fmt.Sprint(a) == fmt.Sprint(b) }

// build returns the modules m0, m1 and so on of some texts, and their codes.
func build(t *testing.T, texts ...string) ([]api.Module, []api.Code) {
	t.Helper()
	var l []api.Module
	var codes []api.Code
	var known []api.Interface
	for i, s := range texts {
		f, _, e := parser.Parse(s)
		label := fmt.Sprint("m", i)
		m, g := bind.Bind(label, f, known)
		c, h := compile.Module(m)
		if e != api.OK || g != api.OK || h != api.OK {
			t.Fatal(s, e, g, h)
		}
		x := api.Interface{Label: label}
		for _, d := range m.Decls {
			x.Sigs = append(x.Sigs, api.Sig{Id: d.Id, Name: d.Names[0]})
		}
		l, known, codes = append(l, m), append(known, x), append(codes, c)
	}
	return l, codes
}

func name(pack string, id int) api.Name { return api.Name{Pack: pack, Id: id} }

var texts = []string{
	"let up @1 = (fun n -> (fun l -> (if (n = 0) then l else ((up (n - 1)) (n :: l))))) ; let sum @2 = (fun l -> (case l of nil -> 0 | x :: y -> (x + (sum y)))) ; test t @3 = ((sum ((up 9) nil)) = 45) ; test u @4 = (let x = (chance 1 of 2) in (if x then true else (chance 1 of 3))) ;",
	"use m0 ; test t @1 = ((m0.sum (1 :: (2 :: nil))) = 3) ; test wrong @2 = (1 = (2 + 2)) ; test fault @3 = (1 2) ; test over @4 = ((999999999 + 1) = 0) ; test loop @5 = loop ; test add @6 = (((fun a -> (fun b -> (let a = (a + b) in (a * b)))) 2) = 3) ; let unused @7 = m0.up ;",
}

func TestExample(t *testing.T) {
	_, codes := build(t, "let g @2 = 1 ; let f @5 = g ; let h @9 = 3 ;")
	p, e := link.Link(codes, []api.Name{name("m0", 5)})
	if e != api.OK || len(p.Blocks) != 2 || p.Blocks[0].Instrs[0] != (api.Instr{Op: api.GlobalInstr, A: 1}) || !same(p.Starts, []api.Start{{Name: name("m0", 5)}}) {
		t.Error("P30.1", p, e)
	}
}

func TestMeaning(t *testing.T) {
	l, codes := build(t, texts...)
	roots := []api.Name{name("m1", 3), name("m1", 1), name("m0", 3), name("m1", 2), name("m1", 1), name("m0", 4), name("m1", 4), name("m1", 5), name("m1", 6)}
	p, e := link.Link(codes, roots)
	if e != api.OK || machine.Check(p) != api.OK || len(p.Starts) != 8 {
		t.Fatal("P30.2", e)
	}
	back := slices.Clone(codes)
	slices.Reverse(back)
	if q, e := link.Link(append(back, api.Code{Label: "more"}), roots); e != api.OK || !same(q, p) {
		t.Error("P30.3", e)
	}
	r := rand.New(rand.NewSource(1))
	for range 20 {
		r.Shuffle(len(roots), func(i, k int) { roots[i], roots[k] = roots[k], roots[i] })
		q, _ := link.Link(codes, roots)
		seed := r.Uint64()
		for _, n := range roots {
			want := eval.Test(l, n, 5000, seed)
			b, e := link.Start(q, n)
			m, _ := machine.Begin(q, n, seed)
			m, f := machine.Run(m, 5000)
			v, g := machine.Result(m)
			if f != api.OK {
				g = f
			}
			if g == api.OK && v.Kind != api.BoolValue {
				g = api.ErrFault
			}
			if e != api.OK || b < 0 || m.Steps != want.Steps || g != want.Err || (g == api.OK && v.Int == 1) != want.Pass {
				t.Error("T11", n, m.Steps, g, want)
			}
		}
	}
}

func TestEncoding(t *testing.T) {
	_, codes := build(t, texts...)
	p, _ := link.Link(codes, []api.Name{name("m1", 1), name("m0", 4)})
	s, e := link.Encode(p)
	if q, f := link.Decode(s); e != api.OK || f != api.OK || !same(p, q) {
		t.Error("P30.4", e, f)
	}
	for k := range s {
		for _, bad := range []string{s[:k], s[:k] + string([]byte{s[k] ^ 1}) + s[k+1:], s[:k] + string([]byte{s[k] + 128, 0}) + s[k+1:]} {
			if q, e := link.Decode(bad); e == api.OK {
				if again, _ := link.Encode(q); again != bad {
					t.Error("P30.4", k)
				}
			} else if e != api.ErrDecode || !same(q, api.Program{}) {
				t.Error("P30.4", k, e)
			}
		}
	}
	if _, e := link.Decode(s + "\x00"); e != api.ErrDecode {
		t.Error("P30.4", e)
	}
	small := api.Program{Blocks: []api.Block{{Instrs: []api.Instr{{Op: 1, A: -3}, {Op: 10, Name: "+"}}}, {Captured: 2, Param: true}}, Starts: []api.Start{{Name: name("m", 7)}}}
	if s, e := link.Encode(small); e != api.OK || s != "\x02\x00\x00\x02\x01\x07\x00\x00\x0a\x00\x00\x01+\x02\x01\x00\x01\x01m\x07\x00" {
		t.Errorf("P30.1: %q", s)
	}
	bad := api.Program{Starts: []api.Start{{Name: name("M", 7)}}}
	if s, e := link.Encode(bad); s != "" || e != api.ErrName {
		t.Error("P30.1: Encode", e)
	}
	if _, e := link.Start(bad, name("M", 7)); e != api.ErrArgument {
		t.Error("P30.1: Start", e)
	}
	if b, e := link.Start(p, name("m0", 1)); e != api.ErrNotFound || b != 0 {
		t.Error("P30.1: Start", e)
	}
}

func TestErrors(t *testing.T) {
	_, codes := build(t, texts...)
	ret, global := api.Instr{Op: api.RetInstr}, api.Instr{Op: api.GlobalInstr, Name: "m0", A: 77}
	lost := api.Code{Label: "lost", Blocks: []api.Block{{Instrs: []api.Instr{global, ret}}, {Instrs: []api.Instr{ret}}}, Decls: []api.CodeDecl{{Id: 1, Kind: 1}, {Id: 2, Kind: 1, Block: 1}}}
	big := api.Code{Label: "big", Blocks: []api.Block{{Instrs: append(make([]api.Instr, 20000), ret)}}, Decls: []api.CodeDecl{{Id: 1, Kind: 1}}}
	for i := range 20000 {
		big.Blocks[0].Instrs[i] = api.Instr{Op: api.NilInstr}
	}
	for k, x := range []struct {
		l     []api.Code
		roots []api.Name
		e     api.Errno
	}{
		{[]api.Code{codes[0], {}, codes[0]}, []api.Name{{}}, api.ErrName}, {[]api.Code{codes[0], codes[0], {}}, []api.Name{{}}, api.ErrExists}, {append(codes, lost), []api.Name{name("lost", 1), name("m0", 9)}, api.ErrNotFound}, {append(codes, lost), []api.Name{name("lost", 1)}, api.ErrScope}, {append(codes, lost), []api.Name{name("lost", 2)}, api.OK},
		{codes[1:], []api.Name{name("m1", 1)}, api.ErrScope}, {codes[1:], []api.Name{name("m1", 2)}, api.OK}, {[]api.Code{big}, []api.Name{name("big", 1)}, api.ErrLimit}, {[]api.Code{big, lost}, []api.Name{name("big", 1), name("lost", 1)}, api.ErrScope}, {nil, nil, api.OK},
	} {
		if p, e := link.Link(x.l, x.roots); e != x.e || e != api.OK && !same(p, api.Program{}) {
			t.Error("P30.1: Link", k, e)
		}
	}
}
