package partial_test

import (
	"strings"
	"testing"

	"cordwood/api"
	"cordwood/partial"
)

func TestLongestPrefix(t *testing.T) {
	p, a := commit(t, nil, 0, files("x", "1"))
	if l, _, e := partial.Needed(p, digests{a}, api.Scope{Prefix: strings.Repeat("x", api.MaxPath)}); e != api.OK || len(l) != 2 {
		t.Error("P14.1", len(l), e)
	}
}

func TestEnds(t *testing.T) {
	p, a := commit(t, nil, 0, files("x", "1"))
	p, b := commit(t, p, 1, files("x", "2"), a)
	q, edge, _ := partial.Clone(p, digests{b}, api.Scope{Depth: 1})
	if l, e := partial.Missing(q, digests{b}, api.Scope{}, edge); e != api.OK || len(l) != 0 {
		t.Error("P14.2: the edge counts as without parents", l, e)
	}
	if l, e := partial.Missing(q, digests{b}, api.Scope{}, nil); e != api.OK || len(l) != 1 || l[0] != a {
		t.Error("P14.2", l, e)
	}
}
