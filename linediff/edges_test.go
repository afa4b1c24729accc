package linediff_test

import (
	"testing"

	"cordwood/api"
	"cordwood/linediff"
)

func TestEnd(t *testing.T) {
	// The common end is left out before the rest is compared.
	if l := linediff.Diff([]string{"a", "b"}, []string{"b", "b"}); !same(l, []api.Hunk{{At: 0, Old: []string{"a"}, New: []string{"b"}}}) {
		t.Error("P18.1", l)
	}
	if l := linediff.Diff([]string{"c", "a", "b", "d"}, []string{"c", "b", "b", "d"}); !same(l, []api.Hunk{{At: 1, Old: []string{"a"}, New: []string{"b"}}}) {
		t.Error("P18.1", l)
	}
	if l := linediff.Diff([]string{"a", "a"}, []string{"a"}); !same(l, []api.Hunk{{At: 1, Old: []string{"a"}}}) {
		t.Error("P18.1: the beginning comes first", l)
	}
}
