package digest_test

import (
	"testing"

	"cordwood/api"
	"cordwood/digest"
)

func TestTooGreat(t *testing.T) {
	d := digest.Of("x")
	leaf := digest.Root([]api.Digest{d})
	// This would be the proof for the last of 2^40 + 1 elements.
	if digest.Verify(digest.Pair(d, leaf), api.MaxInt+1, api.MaxInt, d, []api.Digest{d}) {
		t.Error("P2.1: too many elements")
	}
	if !digest.Verify(digest.Pair(d, leaf), 2, 1, d, []api.Digest{d}) || digest.Verify(digest.Pair(d, leaf), 2, 2, d, []api.Digest{d}) {
		t.Error("P2.1")
	}
}
