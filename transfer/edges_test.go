package transfer_test

import (
	"testing"

	"cordwood/api"
	"cordwood/digest"
	"cordwood/transfer"
	"cordwood/wire"
)

func TestIds(t *testing.T) {
	p, a := commit(t, nil, 0, []api.File{{Path: "x", Data: "1"}})
	q, _ := transfer.Request(begin(t, nil, digests{a}, nil))
	reply, _ := transfer.Serve(p, q, 65536)
	l, _ := wire.Scan(reply)
	id, size := int(digest.Of(l[0].Data)[0]%(1<<40+1)), len(l[0].Data)
	if len(l) != 1 || l[0].Id != id || l[0].Total != size {
		t.Error("P17.1: Serve", l)
	}
	for k, x := range []struct{ id, offset, total, first, count int }{{id, 0, size, 0, size}, {id, 3, 4, 3, 4}, {id, size - 1, 1, size - 1, 1}, {id, size - 1, 2, 0, size}, {id, size, 1, 0, size}, {id + 1, 3, 4, 0, size}} {
		gap, _ := wire.Encode(api.Message{Kind: api.GapMessage, Id: x.id, Offset: x.offset, Total: x.total})
		reply, e := transfer.Serve(p, q+gap, 65536)
		l, _ := wire.Scan(reply)
		if e != api.OK || len(l) != 1 || l[0].Offset != x.first || len(l[0].Data) != x.count || l[0].Total != size {
			t.Error("P17.1: Serve", k, e)
		}
	}
	if _, e := transfer.Begin(p, make(digests, 999), digests{a}); e != api.OK {
		t.Error("P17.1: Begin", e)
	}
}
