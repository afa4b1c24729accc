package packs_test

import (
	"testing"

	"cordwood/packs"
)

func TestLabel(t *testing.T) {
	for path, want := range map[string]string{"a.pk": "a", "a/b.pk": "a/b", "A.pk": "", ".pk": "", "a.pkx": "", "a": "", "a.b.pk": ""} {
		if s, ok := packs.Label(path); s != want || ok != (want != "") || ok && packs.Path(s) != path {
			t.Error("P36.1", path, s)
		}
	}
}
