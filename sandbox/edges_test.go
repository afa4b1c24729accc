package sandbox_test

import (
	"strings"
	"testing"

	"cordwood/api"
)

func TestLongestInput(t *testing.T) {
	s := "let f @1 = 1 ;"
	o, _, e := run(t, ready(api.CompileAction, "m", "source m", s+strings.Repeat(" ", api.MaxData-len(s))))
	if e != api.OK || o.Failed {
		t.Error("P42.1", o.Message, e)
	}
}

func TestCodes(t *testing.T) {
	// The code of a refers to itself, and then to others.
	compiled := func(label, s string, known ...string) (string, string) {
		o, _, e := run(t, ready(api.CompileAction, label, append(known, "source "+label, s)...))
		if e != api.OK || o.Failed {
			t.Fatal("P42.1", label, o.Message, e)
		}
		return o.Files[0].Data, o.Files[1].Data
	}
	b, bi := compiled("b", "pub let f @1 = true ;")
	c, ci := compiled("c", "pub let f @1 = false ;")
	a, _ := compiled("a", "use b ; use c ; let own @1 = c.f ; test good @2 = (if own then own else b.f) ; test luck @3 = (if (chance 1 of 2) then (chance 1 of 2) else (chance 1 of 3)) ;", "iface b", bi, "iface c", ci)
	o, asked, e := run(t, ready(api.LinkAction, "a", "code a", a, "code b", b, "code c", c))
	if e != api.OK || o.Failed || len(asked) != 3 {
		t.Fatal("P42.1", o.Message, asked, e)
	}
	o, _, e = run(t, ready(api.TestAction, "a", "program a", o.Files[0].Data))
	// With the seed 0, the first chance has the number 1442695040888963407 / 2^33, which is even, and so on.
	seed, luck := uint64(0), "pass"
	next := func(den uint64) bool {
		seed = seed*6364136223846793005 + 1442695040888963407
		return seed>>33%den < 1
	}
	den := uint64(3)
	if next(2) {
		den = 2
	}
	if !next(den) {
		luck = "fail"
	}
	if e != api.OK || !strings.HasPrefix(o.Files[0].Data, "2 pass ") || !strings.Contains(o.Files[0].Data, "3 "+luck+" ") {
		t.Error("P42.1", o.Files, luck, e)
	}
}
