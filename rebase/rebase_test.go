package rebase_test

import (
	"fmt"
	"testing"

	"cordwood/api"
	"cordwood/rebase"
)

func TestResult(t *testing.T) {
	f := func(a, b string) []api.File { return []api.File{{Path: "a", Data: a}, {Path: "b", Data: b}} }
	if l, ok := rebase.Result(f("1", "1"), f("1", "2"), f("3", "1")); !ok || fmt.Sprint(l) != fmt.Sprint(f("3", "2")) {
		t.Error("P58.1", l, ok)
	}
	if l, ok := rebase.Result(f("1", "1"), f("2", "1"), f("3", "1")); ok || len(l) != 0 {
		t.Error("P58.1: a conflict", l)
	}
	if l, ok := rebase.Result(nil, nil, []api.File{{}}); ok || len(l) != 0 {
		t.Error("P58.1: not a tree", l)
	}
}
