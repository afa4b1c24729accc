package textmerge_test

import (
	"strings"
	"testing"

	"cordwood/api"
	"cordwood/textmerge"
)

func TestLongest(t *testing.T) {
	long := strings.Repeat("a", api.MaxData)
	for _, x := range [][3]string{{long, "", ""}, {"", long, ""}, {"", "", long}} {
		if _, e := textmerge.Merge(x[0], x[1], x[2]); e != api.OK {
			t.Error("P19.1", e)
		}
	}
}
