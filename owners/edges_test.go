package owners_test

import (
	"strings"
	"testing"

	"cordwood/api"
	"cordwood/owners"
)

func TestLongest(t *testing.T) {
	s := top + strings.Repeat(" ", api.MaxData-len(top))
	if l, _, e := owners.Parse(s); e != api.OK || len(l) != 2 {
		t.Error("P54.1", e)
	}
	if _, at, e := owners.Parse(s + " "); e != api.ErrLimit || at != 0 {
		t.Error("P54.1", at, e)
	}
}
