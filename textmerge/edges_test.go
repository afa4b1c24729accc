package textmerge_test

import (
	"strings"
	"testing"

	"cordwood/api"
	"cordwood/textmerge"
)

func TestLongest(t *testing.T) {
	long := strings.Repeat("a", api.MaxData)
	for _, x := range [][3]string{{long, "", ""}, {"", long, ""}, {"", "", long}} {
		if _, e := textmerge.Merge(x[0], x[1], x[2]); e != api.OK {
			t.Error("P19.1", e)
		}
	}
}

func TestLaterRegions(t *testing.T) {
	c := api.Region{Conflict: true, Left: []string{"a\n"}}
	c.Base, c.Right = []string{"b\n"}, []string{"c\n"}
	for _, bad := range []api.Region{{}, {Left: []string{""}}, {Conflict: true}} {
		if _, e := textmerge.Settle(regions{c, bad}, 0, 0); e != api.ErrArgument {
			t.Error("P19.1", bad, e)
		}
	}
}
