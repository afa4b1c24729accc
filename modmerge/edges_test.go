package modmerge_test

import (
	"fmt"
	"testing"

	"cordwood/api"
	"cordwood/modmerge"
)

func TestMostUses(t *testing.T) {
	uses := func(from, to int) api.Module {
		m := api.Module{Label: "me"}
		for i := from; i < to; i++ {
			m.Uses = append(m.Uses, fmt.Sprintf("u%03d", i))
		}
		return m
	}
	if m, e := modmerge.Merge(uses(0, 0), uses(0, 10), uses(10, 20)); e != api.OK || len(m.Uses) != 20 {
		t.Error("P33.1", e)
	}
}
