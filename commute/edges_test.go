package commute_test

import (
	"fmt"
	"testing"

	"cordwood/api"
	"cordwood/commute"
)

func TestMoveToTheEnds(t *testing.T) {
	l := []api.Edit{use(api.AddUse, "a", "x"), use(api.AddUse, "b", "x"), use(api.AddUse, "c", "x")}
	for _, x := range [][5]int{{0, 2, 1, 2, 0}, {2, 0, 2, 0, 1}, {0, 0, 0, 1, 2}, {2, 2, 0, 1, 2}, {1, 0, 1, 0, 2}} {
		m, ok := commute.Move(l, x[0], x[1])
		if !ok || fmt.Sprint(m) != fmt.Sprint([]api.Edit{l[x[2]], l[x[3]], l[x[4]]}) {
			t.Error("P35.1: Move", x, m)
		}
	}
}

func TestMoveBeyond(t *testing.T) {
	l := []api.Edit{use(api.AddUse, "a", "x"), use(api.AddUse, "b", "x"), use(api.AddUse, "c", "x")}
	for _, x := range [][2]int{{0, 3}, {3, 0}, {-1, 0}, {0, -1}, {2, 3}, {3, 3}, {-1, -1}} {
		if m, ok := commute.Move(l, x[0], x[1]); ok || len(m) != 0 {
			t.Error("P35.1: Move", x)
		}
	}
}
