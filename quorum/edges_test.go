package quorum_test

import (
	"strings"
	"testing"

	"cordwood/api"
	"cordwood/quorum"
)

func TestGreatest(t *testing.T) {
	b, e := quorum.Vote(nil, api.Digest{}, strings.Repeat("a", api.MaxName), strings.Repeat("x", api.MaxData))
	if e != api.OK || quorum.Check(b) != api.OK {
		t.Error("P46.1", e)
	}
	if _, e := quorum.Vote(nil, api.Digest{}, strings.Repeat("a", api.MaxName+1), ""); e != api.ErrName {
		t.Error("P46.1", e)
	}
}
