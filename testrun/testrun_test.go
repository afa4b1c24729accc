package testrun_test

import (
	"fmt"
	"math/rand"
	"slices"
	"testing"

	"cordwood/api"
	"cordwood/bind"
	"cordwood/compile"
	"cordwood/depend"
	"cordwood/eval"
	"cordwood/link"
	"cordwood/machine"
	"cordwood/parser"
	"cordwood/sprt"
	"cordwood/testrun"
	"cordwood/testselect"
)

func name(id int) api.Name { return api.Name{Pack: "m", Id: id} }

func modules(t *testing.T, s string) []api.Module {
	t.Helper()
	f, _, e := parser.Parse(s)
	m, g := bind.Bind("m", f, nil)
	if e != api.OK || g != api.OK {
		t.Fatal(s, e, g)
	}
	return []api.Module{m}
}

var trial = api.Trial{Good: api.Ratio{Num: 9, Den: 10}, Bad: api.Ratio{Num: 1, Den: 2}, Alpha: api.Ratio{Num: 1, Den: 20}, Beta: api.Ratio{Num: 1, Den: 20}}

const text = "test good @1 = (1 = 1) ; test bad @2 = (1 = 2) ; let k @3 = 5 ; test uses @4 = (k = 5) ; test loop @5 = loop ; flaky f @6 = (chance 3 of 4) ; test odd @7 = (chance 1 of 2) ; test over @8 = ((999999999 + 1) = 1) ; test int @9 = k ;"

func TestRun(t *testing.T) {
	l := modules(t, text)
	tests := []api.Name{name(1), name(2), name(4), name(3), name(99), name(5), name(1), name(8), name(9), name(7)}
	v, e := testrun.Run(l, tests, 500, 3)
	if e != api.OK || len(v) != len(tests) || !v[0].Pass || v[1].Pass || v[3].Err != api.ErrKind || v[4].Err != api.ErrNotFound || v[5].Err != api.ErrSteps {
		t.Error("P53.1", v, e)
	}
	for i, n := range tests {
		if v[i] != eval.Test(l, n, 500, 3) {
			t.Error("P53.1", n)
		}
	}
	for n := 1; n < 13; n++ {
		if w, e := testrun.Sharded(l, tests, n, 500, 3); e != api.OK || !slices.Equal(v, w) {
			t.Error("P53.3", n, w, e)
		}
	}
	code, _ := compile.Module(l[0])
	for i, n := range tests {
		p, e := link.Link([]api.Code{code}, []api.Name{n})
		m, f := machine.Begin(p, n, 3)
		if e != api.OK || f != api.OK || v[i].Err == api.ErrKind {
			continue
		}
		m, f = machine.Run(m, 500)
		x, g := machine.Result(m)
		pass := f == api.OK && g == api.OK && x.Kind == api.BoolValue && x.Int == 1
		if m.Steps != v[i].Steps || pass != v[i].Pass {
			t.Error("P53.2", n, m.Steps, v[i])
		}
	}
	many := make([]api.Name, 1001)
	for k, x := range []struct {
		tests    []api.Name
		n, steps int
		e        api.Errno
	}{{many, 0, -1, api.ErrRange}, {nil, 0, 100001, api.ErrRange}, {many, 0, 0, api.ErrLimit}, {nil, 0, 0, api.ErrRange}, {nil, 101, 0, api.ErrRange}, {many[:1000], 100, 100000, api.OK}, {nil, 3, 0, api.OK}} {
		if v, e := testrun.Sharded(l, x.tests, x.n, x.steps, 0); e != x.e || e != api.OK && len(v) != 0 {
			t.Error("P53.1: Sharded", k, e)
		}
		if v, e := testrun.Run(l, x.tests, x.steps, 0); (e == api.OK) != (x.e == api.OK || k == 3 || k == 4) || e != api.OK && len(v) != 0 {
			t.Error("P53.1: Run", k, e)
		}
	}
}

func TestJudge(t *testing.T) {
	l := modules(t, text)
	if d, n, e := testrun.Judge(l, name(1), trial, 40, 100, 0); d != api.Accepted || n != 6 || e != api.OK {
		t.Error("P53.1", d, n, e)
	}
	if d, n, e := testrun.Judge(l, name(2), trial, 40, 100, 0); d != api.Refused || n != 2 || e != api.OK {
		t.Error("P53.1", d, n, e)
	}
	if d, n, e := testrun.Judge(l, name(1), trial, 5, 100, 0); d != api.Undecided || n != 5 || e != api.OK {
		t.Error("P53.1", d, n, e)
	}
	if d, n, e := testrun.Judge(l, name(1), trial, 0, 100, 0); d != api.Undecided || n != 0 || e != api.OK {
		t.Error("P53.1", d, n, e)
	}
	for seed := range uint64(60) {
		start := seed * (1<<64 - 1) / 59
		var outcomes []bool
		for i := range 40 {
			outcomes = append(outcomes, eval.Test(l, name(6), 100, start+uint64(i)).Pass)
		}
		want, count, _ := sprt.Run(trial, outcomes)
		if d, n, e := testrun.Judge(l, name(6), trial, 40, 100, start); d != want || n != count || e != api.OK {
			t.Error("P53.5", seed, d, n, e)
		}
	}
	for k, x := range []struct {
		id, most, steps int
		t               api.Trial
		e               api.Errno
	}{{99, -1, -1, api.Trial{}, api.ErrRange}, {99, -1, 0, api.Trial{}, api.ErrArgument}, {99, -1, 0, trial, api.ErrRange}, {99, 41, 0, trial, api.ErrRange}, {99, 40, 0, trial, api.ErrNotFound}, {3, 40, 0, trial, api.ErrKind}, {6, 40, 0, trial, api.OK}} {
		if d, n, e := testrun.Judge(l, name(x.id), x.t, x.most, x.steps, 0); e != x.e || e != api.OK && (d != 0 || n != 0) {
			t.Error("P53.1: Judge", k, e)
		}
	}
	if _, _, e := testrun.Judge(append(l, api.Module{}), name(3), trial, 1, 1, 0); e != api.ErrName {
		t.Error("P53.1: Judge", e)
	}
}

func TestAgain(t *testing.T) {
	r := rand.New(rand.NewSource(1))
	random := func() []api.Module {
		s := ""
		for id := 1; id < 8; id++ {
			kind := []string{"let", "test"}[id/4]
			body := fmt.Sprintf("(f%d = %d)", 1+r.Intn(3), r.Intn(2))
			if id < 4 {
				body = fmt.Sprint(r.Intn(2))
			}
			s += fmt.Sprintf("%s f%d @%d = %s ; ", kind, id, id, body)
		}
		return modules(t, s)
	}
	reused := 0
	for range 100 {
		before, l := random(), random()
		old, _ := testrun.Run(before, testselect.Tests(before), 100, 0)
		want, _ := testrun.Run(l, testselect.Tests(l), 100, 0)
		if v, n, e := testrun.Again(l, old, before, 100, 0); e != api.OK || !slices.Equal(v, want) {
			t.Error("P53.4", e)
		} else {
			reused += len(v) - n
		}
		if v, n, e := testrun.Again(l, want, l, 100, 0); e != api.OK || n != 0 || !slices.Equal(v, want) {
			t.Error("P53.4", n, e)
		}
		if v, n, e := testrun.Again(l, nil, l, 100, 0); e != api.OK || n != len(want) || !slices.Equal(v, want) {
			t.Error("P53.1: no verdicts", n, e)
		}
	}
	if reused == 0 {
		t.Error("P53.4: none")
	}
	l := modules(t, "test a @1 = true ;")
	fake := []api.Verdict{{Test: name(1), Steps: 77}, {Test: name(1), Steps: 78}}
	if v, n, e := testrun.Again(l, fake, l, 100, 0); e != api.OK || n != 0 || v[0].Steps != 77 {
		t.Error("P53.1: the first verdict", v, e)
	}
	if v, n, e := testrun.Again(l, fake, l, -1, 0); e != api.ErrRange || n != 0 || len(v) != 0 {
		t.Error("P53.1: Again", e)
	}
	big := api.Module{Label: "m"}
	for i := range 1001 {
		big.Decls = append(big.Decls, api.Decl{Id: i, Kind: api.TestDecl})
	}
	if v, n, e := testrun.Again([]api.Module{big}, nil, nil, 0, 0); e != api.ErrLimit || n != 0 || len(v) != 0 {
		t.Error("P53.1: Again", e)
	}
	if _, e := depend.Key(l, name(1)); e != api.OK {
		t.Error(e)
	}
}
