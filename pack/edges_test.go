package pack_test

import (
	"fmt"
	"testing"

	"cordwood/api"
	"cordwood/pack"
	"cordwood/pool"
)

func TestMostEntries(t *testing.T) {
	var texts []string
	for i := range 1000 {
		texts = append(texts, fmt.Sprint(i))
	}
	p, l := blobs(t, texts...)
	s, e := pack.Pack(p, l, nil)
	x, f := pack.Entries(s)
	if e != api.OK || f != api.OK || len(x) != 1000 {
		t.Error("P10.1", e, f)
	}
	if q, e := pack.Unpack(s, nil); e != api.OK || len(q) != 1000 || pool.Check(q) != api.OK {
		t.Error("P10.2", e)
	}
}
