package blocks_test

import (
	"fmt"
	"testing"

	"cordwood/api"
	"cordwood/blocks"
	"cordwood/parts"
)

func TestText(t *testing.T) {
	l := []api.Block{{Captured: 2, Param: true, Instrs: []api.Instr{{Op: 1, A: -3}, {Op: 10, Name: "+"}, {Op: 16, A: 1, B: 300}}}, {}}
	s := blocks.Text(l)
	if s != "\x02\x02\x01\x03\x01\x07\x00\x00\x0a\x00\x00\x01+\x10\x02\xac\x02\x00\x00\x00\x00" {
		t.Errorf("P28.1, P30.1: %q", s)
	}
	r := parts.Read(s)
	if back := blocks.Read(r); !r.Done() || fmt.Sprint(back) != fmt.Sprint(l) {
		t.Error("P28.2, P30.4", back)
	}
	r = parts.Read(s[:9])
	if blocks.Read(r); !r.Bad() {
		t.Error("P28.2, P30.4: an end is missing")
	}
}
