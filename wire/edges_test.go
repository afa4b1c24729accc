package wire_test

import (
	"math"
	"math/big"
	"testing"

	"cordwood/api"
	"cordwood/wire"
)

func TestFirstId(t *testing.T) {
	x, _ := wire.Gather(api.Parts{}, msg{Kind: 2, Total: 3, Data: "a"})
	x, e := wire.Gather(x, msg{Kind: 2, Total: 3, Offset: 1, Data: "bc"})
	if s, ok := wire.Whole(x); e != api.OK || !ok || s != "abc" {
		t.Error("P16.3", s, e)
	}
}

// proper reports whether parts with pieces are valid, with numbers that don't wrap.
func proper(x api.Parts) bool {
	number := func(n int) *big.Int { return big.NewInt(int64(n)) }
	least := number(0)
	for _, p := range x.Pieces {
		end := number(p.Offset)
		end.Add(end, number(len(p.Data)))
		if p.Data == "" || number(p.Offset).Cmp(least) < 0 || end.Cmp(number(x.Total)) > 0 {
			return false
		}
		least = end.Add(end, number(1))
	}
	return x.Total <= 1<<20 && x.Id >= 0 && x.Id <= api.MaxInt
}

// checkValidity checks that parts with pieces are taken for valid only if they are.
func checkValidity(t *testing.T, x api.Parts) {
	t.Helper()
	ok := proper(x)
	part := msg{Kind: api.PartMessage, Id: x.Id, Total: x.Total, Offset: x.Pieces[0].Offset, Data: x.Pieces[0].Data}
	for _, m := range []msg{part, {Kind: api.PartMessage, Total: 1, Data: "g"}, {Kind: api.WantMessage}, {Kind: api.GapMessage, Total: 1}, {Kind: api.DoneMessage}, {}, {Kind: api.PartMessage}} {
		want := api.ErrArgument
		if ok {
			_, want = wire.Encode(m)
			if m.Kind != api.PartMessage {
				want = api.ErrKind
			} else if want == api.OK && (m.Id != x.Id || m.Total != x.Total) {
				want = api.ErrMismatch
			}
		}
		y, e := wire.Gather(x, m)
		if e != want || e == api.OK && !same(y, x) || e != api.OK && !same(y, api.Parts{}) {
			t.Error("P16.1: Gather", x, m, y, e, want)
		}
	}
	if ok {
		return
	}
	if at, n, found := wire.Gap(x); at != 0 || n != 0 || found {
		t.Error("P16.1: Gap", x, at, n, found)
	}
	if s, whole := wire.Whole(x); s != "" || whole {
		t.Error("P16.1: Whole", x, s, whole)
	}
}

func TestValidityAtTheEnds(t *testing.T) {
	totals := []int{math.MinInt, math.MinInt + 1, math.MinInt + 2, -1 << 62, -1 << 20, -2, -1, 0, 1, 2, 3, 4, 1<<20 - 1, 1 << 20, 1<<20 + 1, 1 << 40, math.MaxInt - 1, math.MaxInt}
	offsets := []int{math.MinInt, math.MinInt + 1, -2, -1, 0, 1, 2, 3, 1<<20 - 2, 1<<20 - 1, 1 << 20, math.MaxInt - 1, math.MaxInt}
	for _, total := range totals {
		for _, at := range offsets {
			for _, data := range []string{"", "g", "gh"} {
				first := api.Piece{Offset: at, Data: data}
				checkValidity(t, api.Parts{Total: total, Pieces: []api.Piece{first}})
				for _, next := range offsets {
					checkValidity(t, api.Parts{Total: total, Pieces: []api.Piece{first, {Offset: next, Data: "i"}}})
				}
			}
		}
	}
	for _, id := range []int{math.MinInt, -1, api.MaxInt, api.MaxInt + 1, math.MaxInt} {
		checkValidity(t, api.Parts{Id: id, Total: 1, Pieces: []api.Piece{{Data: "g"}}})
	}
	// Without pieces, no number has a meaning.
	for _, n := range totals {
		x, e := wire.Gather(api.Parts{Id: n, Total: n}, msg{Kind: api.PartMessage, Total: 1, Data: "g"})
		if s, ok := wire.Whole(x); e != api.OK || !ok || s != "g" {
			t.Error("P16.1: Gather", n, s, e)
		}
		if at, size, ok := wire.Gap(api.Parts{Id: n, Total: n}); at != 0 || size != 0 || ok {
			t.Error("P16.1: Gap", n, at, size, ok)
		}
	}
}
