package idents_test

import (
	"testing"

	"cordwood/idents"
)

func TestName(t *testing.T) {
	for s, want := range map[string]bool{"a": true, "x1": true, "deps": true, "": false, "if": false, "use": false, "A": false, "a/b": false, "a2345678901234567890123456": false} {
		if idents.Name(s) != want {
			t.Error("P21.1", s)
		}
	}
}
