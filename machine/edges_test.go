package machine_test

import (
	"testing"

	"cordwood/api"
	"cordwood/machine"
)

func TestGreatest(t *testing.T) {
	start := func(pack string, id int) api.Start { return api.Start{Name: api.Name{Pack: pack, Id: id}} }
	for k, x := range []struct {
		p api.Program
		e api.Errno
	}{
		{program(block(op(api.ClosInstr, 2)), api.Block{Param: true}), api.ErrRange}, {program(block(op(api.ClosInstr, 3)), api.Block{Param: true}), api.ErrRange}, {program(block(ins{Op: api.ChanceInstr, A: 1, B: 1}, ins{Op: api.ChanceInstr, A: api.MaxId, B: api.MaxId}, ins{Op: api.ChanceInstr, A: 0, B: 5})), api.OK}, {program(block(ins{Op: api.ChanceInstr, A: 0, B: api.MaxId + 1})), api.ErrRange}, {program(block(make([]ins, 20000)...)), api.ErrKind},
		{api.Program{Blocks: []api.Block{{}}, Starts: []api.Start{start("a", api.MaxId)}}, api.OK}, {api.Program{Blocks: []api.Block{{}}, Starts: []api.Start{start("a", api.MaxId+1)}}, api.ErrRange}, {api.Program{Blocks: []api.Block{{}}, Starts: []api.Start{start("a", 1), start("a", 2)}}, api.OK}, {api.Program{Blocks: []api.Block{{}}, Starts: []api.Start{start("a", 2), start("a", 1)}}, api.ErrOrder},
	} {
		if e := machine.Check(x.p); e != x.e {
			t.Error("P29.1: Check", k, e)
		}
	}
	for k, x := range []struct {
		a, b int
		s    string
	}{{999999998, 1, "+"}, {-999999998, 1, "-"}, {-999999999, -1, "*"}, {999999999, -1, "*"}} {
		m, _ := machine.Run(begin(t, program(block(op(api.IntInstr, x.a), op(api.IntInstr, x.b), sign(x.s), ret)), 0), 10)
		if v, e := machine.Result(m); e != api.OK || v.Int != 999999999 && v.Int != -999999999 {
			t.Error("P29.1: the greatest results", k, v, e)
		}
	}
}
