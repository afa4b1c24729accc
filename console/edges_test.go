package console_test

import (
	"strings"
	"testing"

	"cordwood/api"
	"cordwood/console"
)

func TestGreatest(t *testing.T) {
	long := strings.Repeat("x", api.MaxData)
	for k, a := range []api.Act{{Kind: api.RunInput, Count: -api.MaxInt}, {Kind: api.RunInput, Count: api.MaxInt}, {Kind: api.ApproveInput, Who: long}, {Kind: api.SubmitInput, Files: files(long, "")}, {Kind: api.SubmitInput, Files: files("", long)}} {
		s, e := console.Line(a)
		if b, f := console.Parse(s); e != api.OK || f != api.OK || !same(a, b) {
			t.Error("P60.1", k, e, f)
		}
	}
	if _, e := console.Line(api.Act{Kind: api.RunInput, Count: -api.MaxInt - 1}); e != api.ErrRange {
		t.Error("P60.1", e)
	}
	small := "place 1 1 workers \"w\" 1 1 files\n"
	if s, e := console.Run(small + strings.Repeat("tick\n", 1000)); e != api.OK || strings.Count(s, "tick ok\n") != 1000 {
		t.Error("P60.1: 1000 inputs", e)
	}
	for _, s := range []string{"place 1099511627777 1 workers files", "place 1 -1099511627777 workers files", "place 1 1 workers \"w\" 1099511627777 1 files", "place 1 1 workers \"w\" 1 1099511627777 files", "place 1 1 workers \"" + long + "x\" 1 1 files", "place 1 1 workers \"w\" 1 1 files \"" + long + "x\" \"\"", "place 1 1 workers \"w\" x 1 files", "place 1 1 workers \"w\" 1 x files", "place x 1 workers files"} {
		if _, e := console.Run(s); e != api.ErrSyntax {
			t.Errorf("P60.1: %.60q %d", s, e)
		}
	}
	if _, e := console.Run("place 1 1 workers \"" + long + "\" 1 1 files"); e != api.ErrName {
		t.Error("P60.1: a long name of a worker", e)
	}
	for _, s := range []string{`approve "\xg0" 1`, `approve "\x0g" 1`, `approve x" 1`, `approve "x 1`, `approve " 1`, `worker "a" x 1`, `worker a 1 1`, `worker "a" 1 x`} {
		if _, e := console.Parse(s); e != api.ErrSyntax {
			t.Errorf("P60.2: %q %d", s, e)
		}
	}
}
