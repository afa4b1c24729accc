package sandbox_test

import (
	"strings"
	"testing"

	"cordwood/api"
)

func TestLongestInput(t *testing.T) {
	s := "let f @1 = 1 ;"
	o, _, e := run(t, ready(api.CompileAction, "m", "source m", s+strings.Repeat(" ", api.MaxData-len(s))))
	if e != api.OK || o.Failed {
		t.Error("P42.1", o.Message, e)
	}
}
