package compile_test

import (
	"testing"

	"cordwood/api"
	"cordwood/compile"
)

func TestGreatest(t *testing.T) {
	ret := ins{Op: api.RetInstr}
	c := api.Code{Label: "m", Blocks: []api.Block{{Captured: api.MaxNodes, Instrs: []ins{{Op: api.ChanceInstr, A: 1, B: 1}, {Op: api.ChanceInstr, A: api.MaxId, B: api.MaxId}, {Op: api.ChanceInstr, A: 0, B: 2}, ret}}, {Instrs: []ins{ret}}}, Decls: []api.CodeDecl{{Id: api.MaxId, Kind: 1, Block: 1}}}
	if e := compile.Check(c); e != api.OK {
		t.Error("P28.1: Check", e)
	}
	c.Decls[0].Id++
	if e := compile.Check(c); e != api.ErrRange {
		t.Error("P28.1: Check", e)
	}
	for _, b := range []api.Block{{Param: true, Instrs: []ins{ret}}, {Captured: 1, Instrs: []ins{ret}}} {
		c := api.Code{Label: "m", Blocks: []api.Block{b}, Decls: []api.CodeDecl{{Id: 1, Kind: 1}}}
		if e := compile.Check(c); e != api.ErrRange {
			t.Error("P28.1: a block of a declaration", e)
		}
	}
}

func TestLeast(t *testing.T) {
	ret := ins{Op: api.RetInstr}
	c := api.Code{Label: "m", Blocks: []api.Block{{Param: true, Instrs: []ins{{Op: api.BoolInstr}, {Op: api.ClosInstr}, {Op: api.JumpInstr}, {Op: api.FalseInstr, A: 5}, {Op: api.LocalInstr}, ret}}}}
	if e := compile.Check(c); e != api.OK {
		t.Error("P28.1: Check", e)
	}
}
