package graph_test

import (
	"fmt"
	"strings"
	"testing"

	"cordwood/api"
	"cordwood/graph"
)

func TestMostTargets(t *testing.T) {
	var rules strings.Builder
	l := []string{"BUILD", ""}
	for i := range 100 {
		fmt.Fprintf(&rules, "lib t%02d ; ", i)
		l = append(l, fmt.Sprintf("t%02d.pk", i), "")
	}
	l[1] = rules.String()
	if g, _, e := graph.Load(files(l...)); e != api.OK || len(g.Targets) != 100 {
		t.Error("P39.1: Load", e)
	}
}
