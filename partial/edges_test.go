package partial_test

import (
	"strings"
	"testing"

	"cordwood/api"
	"cordwood/partial"
)

func TestLongestPrefix(t *testing.T) {
	p, a := commit(t, nil, 0, files("x", "1"))
	if l, _, e := partial.Needed(p, digests{a}, api.Scope{Prefix: strings.Repeat("x", api.MaxPath)}); e != api.OK || len(l) != 2 {
		t.Error("P14.1", len(l), e)
	}
}
