package names_test

import (
	"strings"
	"testing"

	"cordwood/names"
)

func TestNames(t *testing.T) {
	for s, want := range map[string]bool{"a": true, "A-z_0.": true, "...": true, "": false, ".": false, "..": false, "a/b": false, "a b": false, "é": false, strings.Repeat("a", 24): true, strings.Repeat("a", 25): false} {
		if names.Name(s) != want {
			t.Error("P7.1", s)
		}
	}
	for s, want := range map[string]bool{"a": true, "a/b.c/D": true, "": false, "/a": false, "a/": false, "a//b": false, "a/../b": false, strings.Repeat("a/", 49) + "ab": true, strings.Repeat("a/", 50) + "a": false} {
		if names.Path(s) != want {
			t.Error("P9.1", s)
		}
	}
}
