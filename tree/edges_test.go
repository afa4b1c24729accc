package tree_test

import (
	"testing"

	"cordwood/api"
	"cordwood/tree"
)

func TestDeepDirectory(t *testing.T) {
	for _, l := range [][]api.File{files("a/b", "", "a/b/c", ""), files("a/b/c", "", "a/b/c/d/e", ""), files("a", "", "a/b/c", "")} {
		if e := tree.Check(l); e != api.ErrExists {
			t.Error("P9.1: Check", l, e)
		}
	}
}
