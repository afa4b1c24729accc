package delta_test

import (
	"testing"

	"cordwood/api"
	"cordwood/delta"
)

func TestMostElements(t *testing.T) {
	l := make(ops, api.MaxData)
	for i := range l {
		l[i] = insert("x")
	}
	s, e := delta.Encode(l)
	if back, f := delta.Decode(s); e != api.OK || f != api.OK || len(back) != len(l) {
		t.Error("P4.4", e, f)
	}
	long := string(make([]byte, api.MaxData))
	if l := delta.Diff(long, long); len(l) != 1 || l[0] != copyOf(0, api.MaxData) {
		t.Error("P4.5", len(l))
	}
	// Of several places, the least one is copied from.
	if l := delta.Diff("abcd-abcde-abcde", "abcde"); len(l) != 1 || l[0] != copyOf(5, 5) {
		t.Error("P4.1", l)
	}
}

func TestSingleBytes(t *testing.T) {
	l := ops{copyOf(2, 1), insert("x"), copyOf(0, 1)}
	s, e := delta.Encode(l)
	if back, f := delta.Decode(s); e != api.OK || f != api.OK || s != "\x03\x01\x02\x00\x01x\x01\x00" || len(back) != 3 || back[0] != l[0] {
		t.Errorf("P4.4: %q", s)
	}
	m, e := delta.Compose(3, l, ops{copyOf(0, 1), copyOf(2, 1), copyOf(1, 1)})
	if e != api.OK || len(m) != 3 || m[0] != copyOf(2, 1) || m[1] != copyOf(0, 1) || m[2] != insert("x") {
		t.Error("P4.3", m, e)
	}
}
