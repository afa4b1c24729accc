package owners_test

import (
	"strings"
	"testing"

	"cordwood/api"
	"cordwood/owners"
)

func TestLongest(t *testing.T) {
	s := top + strings.Repeat(" ", api.MaxData-len(top))
	if l, _, e := owners.Parse(s); e != api.OK || len(l) != 2 {
		t.Error("P54.1", e)
	}
	if _, at, e := owners.Parse(s + " "); e != api.ErrLimit || at != 0 {
		t.Error("P54.1", at, e)
	}
}

func TestOtherFiles(t *testing.T) {
	for _, path := range []string{"A", "x", "AOWNERS", "b/x"} {
		l := files("OWNERS", top, path, "?")
		if g, e := owners.Groups(l, "y"); e != api.OK || !same(g, [][]string{{"ann", "bob"}}) {
			t.Error("P54.3", path, g, e)
		}
	}
}
