package names_test

import (
	"testing"

	"cordwood/names"
)

func TestEnds(t *testing.T) {
	for _, c := range []byte("azAZ09._-") {
		if !names.Char(c) || !names.Name("a"+string(c)) {
			t.Error("P7.1", c)
		}
	}
	for _, c := range []byte("`{@[/:, \x00\x7f") {
		if names.Char(c) {
			t.Error("P7.1", c)
		}
	}
}
