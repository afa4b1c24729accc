package parts_test

import (
	"testing"

	"cordwood/api"
	"cordwood/parts"
)

func TestBool(t *testing.T) {
	if parts.Bool(true) != 1 || parts.Bool(false) != 0 || parts.Signed(-1) != 3 || parts.Signed(1) != 2 {
		t.Error("numbers for truth values and signs", api.OK)
	}
}
