package buildfile_test

import (
	"strings"
	"testing"

	"cordwood/api"
	"cordwood/buildfile"
)

func TestLongest(t *testing.T) {
	s := "lib a ;" + strings.Repeat(" ", api.MaxData-7)
	if l, _, e := buildfile.Parse(s); e != api.OK || len(l) != 1 {
		t.Error("P38.1", e)
	}
	if _, at, e := buildfile.Parse(s + " "); e != api.ErrLimit || at != 0 {
		t.Error("P38.1", at, e)
	}
}
