package modmerge_test

import (
	"fmt"
	"testing"

	"cordwood/api"
	"cordwood/modmerge"
)

func TestMostUses(t *testing.T) {
	uses := func(from, to int) api.Module {
		m := api.Module{Label: "me"}
		for i := from; i < to; i++ {
			m.Uses = append(m.Uses, fmt.Sprintf("u%03d", i))
		}
		return m
	}
	if m, e := modmerge.Merge(uses(0, 0), uses(0, 10), uses(10, 20)); e != api.OK || len(m.Uses) != 20 {
		t.Error("P33.1", e)
	}
}

func TestSides(t *testing.T) {
	m := module(t, "conflict let f @1 = 1 ; let g @2 = 2 ; conflict let h @3 = 3 ;")
	for side, want := range map[int]string{0: "let f @1 = 1 ; let g @2 = 2 ; conflict let h @3 = 3 ;", 2: "let g @2 = 2 ; conflict let h @3 = 3 ;"} {
		if x, e := modmerge.Settle(m, api.Spot{Pack: "me", Kind: api.DoubtConflict, Id: 1}, side); e != api.OK || !same(x, module(t, want)) {
			t.Error("P33.1: Settle", side, x, e)
		}
	}
}
