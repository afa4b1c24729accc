package pack_test

import (
	"fmt"
	"math/rand"
	"testing"

	"cordwood/api"
	"cordwood/pack"
	"cordwood/parts"
	"cordwood/pool"
)

func TestMostEntries(t *testing.T) {
	var texts []string
	for i := range 1000 {
		texts = append(texts, fmt.Sprint(i))
	}
	p, l := blobs(t, texts...)
	s, e := pack.Pack(p, l, nil)
	x, f := pack.Entries(s)
	if e != api.OK || f != api.OK || len(x) != 1000 {
		t.Error("P10.1", e, f)
	}
	if q, e := pack.Unpack(s, nil); e != api.OK || len(q) != 1000 || pool.Check(q) != api.OK {
		t.Error("P10.2", e)
	}
}

func TestPassedOver(t *testing.T) {
	r := rand.New(rand.NewSource(3))
	b := make([]byte, 60000)
	r.Read(b)
	// The delta from the first candidate copies five bytes and inserts one, again and again: it is too long for a text.
	var mixed []byte
	for i := 0; i+6 < len(b); i += 6 {
		mixed = append(mixed, b[i:i+5]...)
		mixed = append(mixed, b[i+5]^0x55)
	}
	p, l := blobs(t, string(b), string(mixed[:len(mixed)-3]), string(mixed))
	s, e := pack.Pack(p, l[2:], l[:2])
	x, f := pack.Entries(s)
	if e != api.OK || f != api.OK || len(x) != 1 || x[0].Kind != api.DeltaEntry || x[0].Base != l[1] {
		t.Error("P10.1", x, e, f)
	}
	if s, e := pack.Pack(p, l[2:], l[:1]); e != api.OK || len(s) < 59000 {
		t.Error("P10.1: a whole entry", len(s), e)
	}
}

func TestTooManyEntries(t *testing.T) {
	body := "\xe9\x07"
	for i := range 1001 {
		body += parts.Digest(api.Digest{uint64(i)}) + "\x00\x01x"
	}
	if l, e := pack.Entries(seal(body)); e != api.ErrDecode || len(l) != 0 {
		t.Error("P10.1", e)
	}
}
