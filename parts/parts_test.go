package parts_test

import (
	"testing"

	"cordwood/api"
	"cordwood/parts"
)

func TestReader(t *testing.T) {
	d := api.Digest{1, 1<<64 - 2}
	s := parts.Int(300) + parts.Text("ab") + parts.Int(1) + parts.Digest(d) + parts.Big(258, 2) + parts.Int(0)
	r := parts.Read(s)
	if r.Int() != 300 || r.Text() != "ab" || !r.Bool() || r.Digest() != d || r.Big(2) != 258 || r.Count() != 0 || !r.Done() || r.Left() != 0 {
		t.Error("parts in order")
	}
	r = parts.Read(s)
	if r.Bytes(len(s)+1) != "" || !r.Bad() || r.Int() != 0 || r.Text() != "" || r.Bool() || r.Done() || r.Left() != 0 {
		t.Error("after a mistake")
	}
	for _, n := range []int{0, 1, -1, 5, -300} {
		if r := parts.Read(parts.Int(parts.Signed(n))); r.Signed() != n || !r.Done() {
			t.Error("Signed", n)
		}
	}
	if r := parts.Read("\x01"); r.Signed() != 0 || !r.Bad() {
		t.Error("a negative zero")
	}
	if r := parts.Read("\x02"); r.Bool() || !r.Bad() {
		t.Error("a truth value is 0 or 1")
	}
	if r := parts.Read("\x02\x00"); r.Count() != 0 || !r.Bad() {
		t.Error("too many elements")
	}
}
