package buildfile_test

import (
	"strings"
	"testing"

	"cordwood/api"
	"cordwood/buildfile"
)

func TestLongest(t *testing.T) {
	s := "lib a ;" + strings.Repeat(" ", api.MaxData-7)
	if l, _, e := buildfile.Parse(s); e != api.OK || len(l) != 1 {
		t.Error("P38.1", e)
	}
	if _, at, e := buildfile.Parse(s + " "); e != api.ErrLimit || at != 0 {
		t.Error("P38.1", at, e)
	}
}

func TestOneElement(t *testing.T) {
	s, e := buildfile.Print([]api.Rule{{Kind: 1, Name: "a", Deps: []string{"b"}, Visible: []string{"c"}}})
	if e != api.OK || s != "lib a deps b visible c ;\n" {
		t.Errorf("P38.1: %q %d", s, e)
	}
}
