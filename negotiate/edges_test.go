package negotiate_test

import (
	"slices"
	"testing"

	"cordwood/negotiate"
)

func TestAnswer(t *testing.T) {
	p, a := commit(t, nil, 0)
	p, b := commit(t, p, 1, a)
	if l := negotiate.Answer(p, digests{a, a, {5}, b, a}); !slices.Equal(l, digests{a, b}) {
		t.Error("P15.1: Answer", l)
	}
}
