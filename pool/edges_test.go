package pool_test

import (
	"slices"
	"testing"

	"cordwood/api"
	"cordwood/digest"
	"cordwood/pool"
)

func TestReached(t *testing.T) {
	var p api.Pool
	put := func(names ...api.Digest) api.Digest {
		o := api.Object{Kind: api.TreeObject}
		for i, d := range names {
			o.Entries = append(o.Entries, api.Entry{Name: string(rune('a' + i)), Digest: d})
		}
		var d api.Digest
		p, d, _ = pool.Put(p, o)
		return d
	}
	one, two := put(api.Digest{1}), put(api.Digest{2})
	both := put(one, two, one, api.Digest{3})
	put(api.Digest{4})
	want := digests{one, two, both}
	slices.SortFunc(want, digest.Compare)
	for _, roots := range []digests{{both}, {{3}, both, {3}}, {both, {}, {3}}, {{}, both, both, one}} {
		reached, missing := pool.Reach(p, roots)
		if !slices.Equal(reached, want) || !slices.Equal(missing, digests{{1}, {2}, {3}}) {
			t.Error("P8.1: Reach", roots, reached, missing)
		}
	}
}

type digests = []api.Digest
