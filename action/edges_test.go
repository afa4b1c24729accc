package action_test

import (
	"fmt"
	"testing"

	"cordwood/action"
	"cordwood/api"
)

func TestMostFiles(t *testing.T) {
	var o api.Output
	for i := range 10 {
		o.Files = append(o.Files, api.File{Path: fmt.Sprintf("code a%02d", i)})
	}
	s, e := action.EncodeOutput(o)
	if back, f := action.DecodeOutput(s); e != api.OK || f != api.OK || len(back.Files) != 10 {
		t.Error("P41.1: ten files", e, f)
	}
}
