package chunk_test

import (
	"strings"
	"testing"

	"cordwood/api"
	"cordwood/chunk"
)

func TestLongest(t *testing.T) {
	p := api.Chunking{Least: 1, Most: 65536, Window: 1, Bits: 16}
	if l, e := chunk.Split(strings.Repeat("x", api.MaxData), p); e != api.OK || len(l) == 0 {
		t.Error("P3.1", e)
	}
}
