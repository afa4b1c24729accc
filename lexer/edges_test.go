package lexer_test

import (
	"strings"
	"testing"

	"cordwood/api"
	"cordwood/lexer"
)

func TestEnds(t *testing.T) {
	for _, s := range []string{"a", "z", "a0", "z9", "zz/az9"} {
		if !lexer.Label(s) {
			t.Error("P20.1", s)
		}
	}
	for _, s := range []string{"`", "{", "a/", "a:", "`a", "{a"} {
		if lexer.Word(s) || lexer.Label(s) {
			t.Error("P20.1", s)
		}
	}
	long := strings.Repeat(" ", api.MaxData-1) + "z"
	if l, _, e := lexer.Scan(long); e != api.OK || len(l) != 1 {
		t.Error("P20.1", e)
	}
}
