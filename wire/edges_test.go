package wire_test

import (
	"testing"

	"cordwood/api"
	"cordwood/wire"
)

func TestFirstId(t *testing.T) {
	x, _ := wire.Gather(api.Parts{}, msg{Kind: 2, Total: 3, Data: "a"})
	x, e := wire.Gather(x, msg{Kind: 2, Total: 3, Offset: 1, Data: "bc"})
	if s, ok := wire.Whole(x); e != api.OK || !ok || s != "abc" {
		t.Error("P16.3", s, e)
	}
}
