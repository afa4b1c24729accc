package machine_test

import (
	"fmt"
	"testing"

	"cordwood/api"
	"cordwood/machine"
)

type ins = api.Instr

var name = api.Name{Pack: "m", Id: 1}

func same(a, b any) bool { return fmt.Sprint(a) == fmt.Sprint(b) }

func op(kind int, a int) ins        { return ins{Op: kind, A: a} }
func sign(s string) ins             { return ins{Op: api.OpInstr, Name: s} }
func num(n int) api.Value           { return api.Value{Kind: api.IntValue, Int: n} }
func truth(n int) api.Value         { return api.Value{Kind: api.BoolValue, Int: n} }
func list(l ...api.Value) api.Value { return api.Value{Kind: api.ListValue, List: l} }

func program(blocks ...api.Block) api.Program {
	return api.Program{Blocks: blocks, Starts: []api.Start{{Name: name}}}
}

func block(l ...ins) api.Block { return api.Block{Instrs: l} }

func begin(t *testing.T, p api.Program, seed uint64) api.Machine {
	t.Helper()
	m, e := machine.Begin(p, name, seed)
	if e != api.OK {
		t.Fatal("P29.1: Begin", e)
	}
	return m
}

var ret = op(api.RetInstr, 0)

func TestRun(t *testing.T) {
	fun := api.Block{Param: true, Captured: 1, Instrs: []ins{op(api.LocalInstr, 0), op(api.LocalInstr, 1), sign("-"), ret}}
	i, n := func(n int) ins { return op(api.IntInstr, n) }, op(api.NilInstr, 0)
	cons, bind, call := op(api.ConsInstr, 0), op(api.BindInstr, 0), op(api.CallInstr, 0)
	for k, x := range []struct {
		l     []ins
		v     api.Value
		steps int
		e     api.Errno
	}{
		{[]ins{i(2), i(3), sign("+"), ret}, num(5), 4, api.OK}, {[]ins{i(2), n, sign("+"), ret}, api.Value{}, 3, api.ErrFault}, {[]ins{i(2), i(3), sign("-"), ret}, num(-1), 4, api.OK}, {[]ins{i(2), i(3), sign("*"), ret}, num(6), 4, api.OK}, {[]ins{i(3), i(3), sign("="), ret}, truth(1), 4, api.OK}, {[]ins{i(3), i(3), sign("<"), ret}, truth(0), 4, api.OK}, {[]ins{i(2), i(3), sign("<"), ret}, truth(1), 4, api.OK},
		{[]ins{i(999999999), i(1), sign("+"), ret}, api.Value{}, 3, api.ErrOverflow}, {[]ins{i(999999999), i(-999999999), sign("*"), ret}, api.Value{}, 3, api.ErrOverflow}, {[]ins{ret}, api.Value{}, 1, api.ErrFault}, {[]ins{i(1)}, api.Value{}, 2, api.ErrFault}, {[]ins{}, api.Value{}, 1, api.ErrFault}, {[]ins{op(api.BoolInstr, 1), op(api.FalseInstr, 4), i(7), ret, i(8), ret}, num(7), 4, api.OK}, {[]ins{op(api.BoolInstr, 0), op(api.FalseInstr, 4), i(7), ret, i(8), ret}, num(8), 4, api.OK},
		{[]ins{i(1), op(api.FalseInstr, 0)}, api.Value{}, 2, api.ErrFault}, {[]ins{op(api.JumpInstr, 2), ret, i(5), ret}, num(5), 3, api.OK}, {[]ins{i(1), i(2), n, cons, cons, ret}, list(num(1), num(2)), 6, api.OK}, {[]ins{i(1), i(2), cons, ret}, api.Value{}, 3, api.ErrFault}, {[]ins{n, cons, ret}, api.Value{}, 2, api.ErrFault},
		{[]ins{i(1), i(2), n, cons, cons, op(api.CaseInstr, 0), op(api.LocalInstr, 1), op(api.LocalInstr, 0), ret}, num(1), 9, api.OK}, {[]ins{i(1), i(2), n, cons, cons, op(api.CaseInstr, 0), op(api.LocalInstr, 1), ret}, list(num(2)), 8, api.OK}, {[]ins{n, op(api.CaseInstr, 3), ret, i(9), ret}, num(9), 4, api.OK}, {[]ins{i(1), op(api.CaseInstr, 2)}, api.Value{}, 2, api.ErrFault}, {[]ins{i(4), bind, op(api.LocalInstr, 0), op(api.DropInstr, 1), ret}, num(4), 5, api.OK}, {[]ins{i(4), bind, op(api.DropInstr, 2)}, api.Value{}, 3, api.ErrFault}, {[]ins{op(api.LocalInstr, 0)}, api.Value{}, 1, api.ErrFault}, {[]ins{bind}, api.Value{}, 1, api.ErrFault},
		{[]ins{op(api.ClosInstr, 1)}, api.Value{}, 1, api.ErrFault}, {[]ins{i(10), bind, op(api.ClosInstr, 1), i(3), call, ret}, num(7), 10, api.OK}, {[]ins{i(10), bind, op(api.ClosInstr, 1), ret}, api.Value{Kind: api.FunValue, Block: 1, List: []api.Value{num(10)}}, 4, api.OK}, {[]ins{i(1), i(2), call}, api.Value{}, 3, api.ErrFault}, {[]ins{i(1), call}, api.Value{}, 2, api.ErrFault}, {[]ins{op(api.GlobalInstr, 2), op(api.GlobalInstr, 2), sign("+"), ret}, num(42), 8, api.OK},
		{[]ins{i(10), bind, op(api.ClosInstr, 1), op(api.DropInstr, 1), i(99), bind, i(3), call, ret}, num(7), 13, api.OK},
	} {
		p := program(block(x.l...), fun, block(i(21), ret))
		m, e := machine.Run(begin(t, p, 3), 1000)
		v, f := machine.Result(m)
		if e != api.OK || f != x.e || !same(v, x.v) || m.Steps != x.steps || f == api.OK && (len(m.Frames) != 0 || len(m.Stack) == 0 || !m.Done) {
			t.Error("P29.1", k, v, m.Steps, e, f)
		}
		if again, e := machine.Run(m, 5); e != api.OK || !same(again, m) {
			t.Error("P29.4", k, e)
		}
		if y, e := machine.Step(m); e != api.ErrState || !same(y, api.Machine{}) {
			t.Error("P29.4", k, e)
		}
		if other, _ := machine.Run(begin(t, p, 77), 1000); other.Steps != m.Steps || !same(other.Stack, m.Stack) {
			t.Error("P29.3", k)
		}
		pieces(t, begin(t, p, 3), m)
	}
}

// pieces runs a machine step by step, and in two parts.
func pieces(t *testing.T, first, last api.Machine) {
	t.Helper()
	m := first
	for k := range last.Steps {
		part, _ := machine.Run(first, k)
		if !same(part, m) {
			t.Error("P29.2", k)
		}
		if rest, e := machine.Run(part, last.Steps-k); e != api.OK || !same(rest, last) {
			t.Error("P29.2", k, e)
		}
		if v, e := machine.Result(m); e != api.ErrState || !same(v, api.Value{}) {
			t.Error("P29.1: Result", e)
		}
		next, e := machine.Step(m)
		if e != api.OK || next.Steps != m.Steps+1 {
			t.Fatal("P29.1: Step", e)
		}
		if next.Err != api.OK {
			before := m
			before.Err, before.Steps = next.Err, next.Steps
			if !same(before, next) {
				t.Error("P29.1: a fault changes nothing else")
			}
		}
		m = next
	}
	if !same(m, last) {
		t.Error("P29.2")
	}
}

func TestChance(t *testing.T) {
	p := program(block(ins{Op: api.ChanceInstr, A: 1, B: 3}, ret))
	for seed := range uint64(50) {
		s := seed*6364136223846793005 + 1442695040888963407
		m, e := machine.Run(begin(t, p, seed), 9)
		if v, _ := machine.Result(m); e != api.OK || (v.Int == 1) != ((s>>33)%3 < 1) || m.Seed != s {
			t.Error("P29.1: chance", seed)
		}
	}
	loop := begin(t, program(block(op(api.JumpInstr, 0))), 0)
	if m, e := machine.Run(loop, 100000); e != api.ErrSteps || m.Steps != 100000 {
		t.Error("P29.1: Run", e)
	}
	for _, steps := range []int{-1, 100001} {
		if m, e := machine.Run(loop, steps); e != api.ErrRange || !same(m, api.Machine{}) {
			t.Error("P29.1: Run", e)
		}
	}
}

func TestCheck(t *testing.T) {
	param := api.Block{Param: true}
	starts := func(l ...api.Start) api.Program { return api.Program{Blocks: []api.Block{{}, param}, Starts: l} }
	start := func(pack string, id, b int) api.Start { return api.Start{Name: api.Name{Pack: pack, Id: id}, Block: b} }
	for k, x := range []struct {
		p api.Program
		e api.Errno
	}{
		{api.Program{}, api.OK}, {api.Program{Blocks: make([]api.Block, 2001)}, api.ErrLimit}, {api.Program{Blocks: make([]api.Block, 2000)}, api.OK}, {program(block(make([]ins, 20001)...)), api.ErrLimit}, {program(api.Block{Captured: 1001, Instrs: []ins{{}}}), api.ErrRange}, {program(api.Block{Captured: -1}), api.ErrRange}, {api.Program{Blocks: []api.Block{{Captured: 1000}}}, api.OK},
		{program(block(ins{})), api.ErrKind}, {program(block(ins{Op: 17})), api.ErrKind}, {program(block(ins{Op: api.GlobalInstr, Name: "m"})), api.ErrArgument}, {program(block(ins{Op: api.NilInstr, A: 1})), api.ErrArgument}, {program(block(ins{Op: api.IntInstr, B: 1})), api.ErrArgument}, {program(block(sign("?"))), api.ErrName}, {program(block(sign(""))), api.ErrName}, {program(block(ins{Op: api.OpInstr, Name: "?", A: 1})), api.ErrArgument},
		{program(block(op(api.IntInstr, 1000000000))), api.ErrRange}, {program(block(op(api.BoolInstr, 2))), api.ErrRange}, {program(block(op(api.LocalInstr, 1001))), api.ErrRange}, {program(block(op(api.LocalInstr, 1000))), api.OK}, {program(block(op(api.GlobalInstr, 1)), param), api.ErrRange}, {program(block(op(api.GlobalInstr, 1)), api.Block{Captured: 1}), api.ErrRange}, {program(block(op(api.GlobalInstr, 2))), api.ErrRange}, {program(block(op(api.ClosInstr, 0))), api.ErrRange}, {program(block(op(api.ClosInstr, 1)), param), api.OK}, {program(block(op(api.ClosInstr, -1))), api.ErrRange},
		{program(block(op(api.JumpInstr, 1))), api.OK}, {program(block(op(api.JumpInstr, 2))), api.ErrRange}, {program(block(op(api.CaseInstr, -1))), api.ErrRange}, {program(block(op(api.DropInstr, 0))), api.ErrRange}, {program(block(op(api.DropInstr, 1000))), api.OK}, {program(block(op(api.DropInstr, 1001))), api.ErrRange}, {program(block(ins{Op: api.ChanceInstr, A: 2, B: 1})), api.ErrRange}, {program(block(ins{Op: api.ChanceInstr, B: 0})), api.ErrRange},
		{starts(start("A", 0, 0)), api.ErrName}, {starts(start("a", 0, 0)), api.ErrRange}, {starts(start("a", 1, 1)), api.ErrRange}, {starts(start("a", 1, 2)), api.ErrRange}, {starts(start("a", 1, 0), start("a", 1, 0)), api.ErrOrder}, {starts(start("b", 1, 0), start("a", 2, 0)), api.ErrOrder}, {starts(start("a", 2, 0), start("b", 1, 0)), api.OK},
	} {
		if e := machine.Check(x.p); e != x.e {
			t.Error("P29.1: Check", k, e, x.e)
		}
		if m, e := machine.Begin(x.p, api.Name{Pack: "zz", Id: 1}, 0); x.e == api.OK && e != api.ErrNotFound || x.e != api.OK && e != api.ErrArgument || !same(m, api.Machine{}) {
			t.Error("P29.1: Begin", k, e)
		}
	}
}

func TestForged(t *testing.T) {
	// These machines were not made by Begin; nothing may panic.
	p := program(block(op(api.LocalInstr, 0), op(api.ChanceInstr, 1)))
	for _, m := range []api.Machine{{}, {Program: p, Frames: []api.Frame{{Block: 9}}}, {Program: p, Frames: []api.Frame{{At: -1}}}, {Program: p, Frames: []api.Frame{{At: 1}}}, {Done: true}} {
		machine.Step(m)
		machine.Run(m, 10)
		machine.Result(m)
	}
}

func TestValues(t *testing.T) {
	result := func(blocks ...api.Block) api.Value {
		t.Helper()
		m, _ := machine.Run(begin(t, program(blocks...), 0), 1000)
		v, e := machine.Result(m)
		if e != api.OK {
			t.Fatal("P29.5", e)
		}
		return v
	}
	for _, a := range []int{-7, 0, 3, 31622} {
		for _, b := range []int{-31622, -1, 0, 3, 8} {
			for s, want := range map[string]api.Value{"+": num(a + b), "-": num(a - b), "*": num(a * b)} {
				if v := result(block(op(api.IntInstr, a), op(api.IntInstr, b), sign(s), ret)); !same(v, want) {
					t.Error("P29.5", a, s, b, v)
				}
			}
		}
	}
	// Taking a list apart and putting it together again leads to the list.
	take := op(api.CaseInstr, 0)
	again := []ins{take, op(api.LocalInstr, 0), op(api.LocalInstr, 1), op(api.ConsInstr, 0), ret}
	three := []ins{op(api.IntInstr, 1), op(api.IntInstr, 2), op(api.IntInstr, 3), op(api.NilInstr, 0), op(api.ConsInstr, 0), op(api.ConsInstr, 0), op(api.ConsInstr, 0)}
	if v := result(block(append(three, again...)...)); !same(v, list(num(1), num(2), num(3))) {
		t.Error("P29.5", v)
	}
	// A function sees the variables as they were when it was made.
	fun := api.Block{Param: true, Captured: 1, Instrs: []ins{op(api.LocalInstr, 0), ret}}
	if v := result(block(op(api.IntInstr, 5), op(api.BindInstr, 0), op(api.ClosInstr, 1), op(api.DropInstr, 1), op(api.IntInstr, 6), op(api.BindInstr, 0), op(api.IntInstr, 9), op(api.CallInstr, 0), ret), fun); !same(v, num(5)) {
		t.Error("P29.5", v)
	}
}
