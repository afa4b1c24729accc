package delta_test

import (
	"testing"

	"cordwood/api"
	"cordwood/delta"
)

func TestMostElements(t *testing.T) {
	l := make(ops, api.MaxData)
	for i := range l {
		l[i] = insert("x")
	}
	s, e := delta.Encode(l)
	if back, f := delta.Decode(s); e != api.OK || f != api.OK || len(back) != len(l) {
		t.Error("P4.4", e, f)
	}
	long := string(make([]byte, api.MaxData))
	if l := delta.Diff(long, long); len(l) != 1 || l[0] != copyOf(0, api.MaxData) {
		t.Error("P4.5", len(l))
	}
	// Of several places, the least one is copied from.
	if l := delta.Diff("abcd-abcde-abcde", "abcde"); len(l) != 1 || l[0] != copyOf(5, 5) {
		t.Error("P4.1", l)
	}
}
