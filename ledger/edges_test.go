package ledger_test

import (
	"testing"

	"cordwood/api"
	"cordwood/ledger"
)

func TestGreatest(t *testing.T) {
	l, e := ledger.Append(api.Ledger{}, api.Record{Time: api.MaxInt, Who: "a", What: "b"})
	if e != api.OK || ledger.Check(l) != api.OK {
		t.Error("P56.1", e)
	}
	h := ledger.Head(l)
	if ledger.Extends(h, 10001, h, 10001, nil) || !ledger.Extends(h, 10000, h, 10000, nil) || ledger.Extends(h, -1, h, -1, nil) {
		t.Error("P56.1: Extends")
	}
}

func TestSecondRecord(t *testing.T) {
	l, _ := ledger.Append(api.Ledger{}, api.Record{Time: 5, Who: "a", What: "b"})
	if _, e := ledger.Append(l, api.Record{Time: 4, Who: "a", What: "b"}); e != api.ErrOrder {
		t.Error("P56.1: Append", e)
	}
	if l, e := ledger.Append(l, api.Record{Time: 5, Who: "a", What: "b"}); e != api.OK || len(l.Records) != 2 {
		t.Error("P56.1: Append", e)
	}
}
