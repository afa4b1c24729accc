package codec_test

import (
	"strings"
	"testing"

	"cordwood/api"
	"cordwood/codec"
)

func TestExactEnds(t *testing.T) {
	long := strings.Repeat("a", api.MaxData)
	s, e := codec.PutText(long)
	if back, n, f := codec.GetText(s); e != api.OK || f != api.OK || back != long || n != len(s) {
		t.Error("P1.1: the longest text", e, f)
	}
	for _, l := range [][]string{nil, {"ab"}, {"", "x"}} {
		s, _ := codec.PutTexts(l)
		if back, n, e := codec.GetTexts(s); e != api.OK || len(back) != len(l) || n != len(s) {
			t.Error("P1.2: nothing behind it", e)
		}
	}
}
