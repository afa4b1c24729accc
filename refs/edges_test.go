package refs_test

import (
	"testing"

	"cordwood/api"
	"cordwood/refs"
)

func TestFullLog(t *testing.T) {
	var l []api.RefUpdate
	for i := range 999 {
		l = append(l, up("a", uint64(i), uint64(i+1)))
	}
	r, _ := refs.Apply(api.Refs{}, l)
	two := []api.RefUpdate{up("a", 999, 1000), up("a", 1000, 1001)}
	if x, e := refs.Apply(r, two); e != api.ErrLimit || len(x.Log) != 0 {
		t.Error("P11.1: Apply", e)
	}
	x, e := refs.Apply(r, two[:1])
	if s, f := refs.Encode(x.Log); e != api.OK || f != api.OK || len(s) == 0 {
		t.Error("P11.1: 1000 updates", e, f)
	}
	if d, e := refs.Get(x, "a"); e != api.OK || d != (api.Digest{1000}) {
		t.Error("P11.1", e)
	}
}
