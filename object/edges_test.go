package object_test

import (
	"testing"

	"cordwood/api"
	"cordwood/object"
)

func TestMostParents(t *testing.T) {
	c := commit
	c.Time, c.Parents = 0, nil
	for i := range 9 {
		want := api.OK
		if len(c.Parents) > 8 {
			want = api.ErrLimit
		}
		if e := object.Check(c); e != want {
			t.Error("P7.1", len(c.Parents), e)
		}
		c.Parents = append(c.Parents, api.Digest{uint64(i + 1)})
	}
	if e := object.Check(c); e != api.ErrLimit {
		t.Error("P7.1", e)
	}
}
