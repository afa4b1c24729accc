package sprt_test

import (
	"fmt"
	"math/big"
	"math/rand"
	"testing"

	"cordwood/api"
	"cordwood/sprt"
)

func ratio(num, den int) api.Ratio { return api.Ratio{Num: num, Den: den} }

var example = api.Trial{Good: ratio(9, 10), Bad: ratio(1, 2), Alpha: ratio(1, 20), Beta: ratio(1, 20)}

func rat(r api.Ratio) *big.Rat { return big.NewRat(int64(r.Num), int64(r.Den)) }

// exact computes the decision with rational numbers.
func exact(t api.Trial, passes, fails int) int {
	one := big.NewRat(1, 1)
	sub := func(r api.Ratio) *big.Rat { return new(big.Rat).Sub(one, rat(r)) }
	quo := func(a, b *big.Rat) *big.Rat { return new(big.Rat).Quo(a, b) }
	l := big.NewRat(1, 1)
	for range passes {
		l.Mul(l, quo(rat(t.Bad), rat(t.Good)))
	}
	for range fails {
		l.Mul(l, quo(sub(t.Bad), sub(t.Good)))
	}
	if l.Cmp(quo(sub(t.Beta), rat(t.Alpha))) >= 0 {
		return api.Refused
	}
	if l.Cmp(quo(rat(t.Beta), sub(t.Alpha))) <= 0 {
		return api.Accepted
	}
	return api.Undecided
}

func random(r *rand.Rand) api.Trial {
	for {
		f := func() api.Ratio {
			den := 2 + r.Intn(19)
			return ratio(1+r.Intn(den-1), den)
		}
		t := api.Trial{Good: f(), Bad: f(), Alpha: f(), Beta: f()}
		if sprt.Check(t) == api.OK {
			return t
		}
	}
}

func TestExample(t *testing.T) {
	for k, x := range [][3]int{{6, 0, api.Accepted}, {5, 0, api.Undecided}, {0, 2, api.Refused}, {0, 1, api.Undecided}, {0, 0, api.Undecided}} {
		if d, e := sprt.Decide(example, x[0], x[1]); d != x[2] || e != api.OK {
			t.Error("P52.1", k, d, e)
		}
	}
	if d, n, e := sprt.Run(example, []bool{true, true, true, true, true, true, false, false}); d != api.Accepted || n != 6 || e != api.OK {
		t.Error("P52.1", d, n, e)
	}
	if d, n, e := sprt.Run(example, nil); d != api.Undecided || n != 0 || e != api.OK {
		t.Error("P52.1", d, n, e)
	}
}

func TestRandom(t *testing.T) {
	r := rand.New(rand.NewSource(1))
	for range 150 {
		x := random(r)
		other := api.Trial{Good: ratio(x.Bad.Den-x.Bad.Num, x.Bad.Den), Bad: ratio(x.Good.Den-x.Good.Num, x.Good.Den), Alpha: x.Beta, Beta: x.Alpha}
		for range 20 {
			passes := r.Intn(41)
			fails := r.Intn(41 - passes)
			d, e := sprt.Decide(x, passes, fails)
			if e != api.OK || d != exact(x, passes, fails) {
				t.Fatal("P52.1", x, passes, fails, d, e)
			}
			if passes+fails < 40 {
				p, _ := sprt.Decide(x, passes+1, fails)
				f, _ := sprt.Decide(x, passes, fails+1)
				if d == api.Accepted && p != api.Accepted || d == api.Refused && f != api.Refused {
					t.Error("P52.3")
				}
			}
			if s, e := sprt.Decide(other, fails, passes); e != api.OK || s != map[int]int{0: 0, 1: 2, 2: 1}[d] {
				t.Error("P52.6", x, passes, fails)
			}
		}
		var l []bool
		for range r.Intn(41) {
			l = append(l, r.Intn(2) == 0)
		}
		d, n, e := sprt.Run(x, l)
		passes := 0
		for i := range l {
			if l[i] {
				passes++
			}
			if f := exact(x, passes, i+1-passes); f != api.Undecided {
				if d != f || n != i+1 {
					t.Error("P52.2")
				}
				break
			}
		}
		if e != api.OK || d == api.Undecided && n != len(l) {
			t.Error("P52.2", e)
		}
	}
}

func TestEnds(t *testing.T) {
	r := rand.New(rand.NewSource(2))
	for range 40 {
		x := random(r)
		n := r.Intn(12)
		l, e := sprt.Ends(x, n)
		counts := map[string]int{}
		for bits := range 1 << n {
			seq := make([]bool, n)
			for i := range seq {
				seq[i] = bits>>i&1 == 1
			}
			d, k, _ := sprt.Run(x, seq)
			passes := 0
			for _, ok := range seq[:k] {
				if ok {
					passes++
				}
			}
			counts[fmt.Sprint(passes, k-passes, d)]++
		}
		sum := 0
		for i, y := range l {
			size := y.Passes + y.Fails
			sum += y.Count << (n - size)
			if counts[fmt.Sprint(y.Passes, y.Fails, y.Decision)] != y.Count<<(n-size) {
				t.Error("P52.1: Ends", y)
			}
			if i > 0 && (size < l[i-1].Passes+l[i-1].Fails || size == l[i-1].Passes+l[i-1].Fails && y.Passes <= l[i-1].Passes) {
				t.Error("P52.1: order")
			}
		}
		if e != api.OK || sum != 1<<n || len(l) != len(counts) {
			t.Error("P52.4", sum, e)
		}
	}
	l, e := sprt.Ends(example, 30)
	sum, refused, accepted := 0, new(big.Rat), new(big.Rat)
	for _, y := range l {
		sum += y.Count << (30 - y.Passes - y.Fails)
		p := func(r api.Ratio) *big.Rat {
			x := big.NewRat(int64(y.Count), 1)
			for range y.Passes {
				x.Mul(x, rat(r))
			}
			for range y.Fails {
				x.Mul(x, new(big.Rat).Sub(big.NewRat(1, 1), rat(r)))
			}
			return x
		}
		if y.Decision == api.Refused {
			refused.Add(refused, p(example.Good))
		} else if y.Decision == api.Accepted {
			accepted.Add(accepted, p(example.Bad))
		}
	}
	if e != api.OK || sum != 1<<30 || refused.Cmp(big.NewRat(1, 19)) > 0 || accepted.Cmp(big.NewRat(1, 19)) > 0 || refused.Sign() == 0 {
		t.Error("P52.5", sum, refused, accepted, e)
	}
	if l, e := sprt.Ends(example, 0); e != api.OK || len(l) != 1 || l[0] != (api.End{Count: 1}) {
		t.Error("P52.1: Ends", l, e)
	}
}

func TestErrors(t *testing.T) {
	half := ratio(1, 2)
	for k, x := range []struct {
		t  api.Trial
		ok bool
	}{
		{example, true}, {api.Trial{}, false}, {api.Trial{Good: ratio(20, 21), Bad: half, Alpha: ratio(1, 20), Beta: ratio(1, 20)}, false}, {api.Trial{Good: ratio(2, 2), Bad: half, Alpha: ratio(1, 20), Beta: ratio(1, 20)}, false}, {api.Trial{Good: half, Bad: ratio(2, 4), Alpha: ratio(1, 20), Beta: ratio(1, 20)}, false}, {api.Trial{Good: half, Bad: ratio(1, 3), Alpha: half, Beta: half}, false}, {api.Trial{Good: half, Bad: ratio(1, 3), Alpha: half, Beta: ratio(9, 20)}, true}, {api.Trial{Good: half, Bad: ratio(0, 3), Alpha: half, Beta: ratio(9, 20)}, false}, {api.Trial{Good: half, Bad: ratio(-1, -3), Alpha: half, Beta: ratio(9, 20)}, false},
	} {
		if e := sprt.Check(x.t); (e == api.OK) != x.ok || !x.ok && e != api.ErrArgument {
			t.Error("P52.1: Check", k, e)
		}
		if x.ok {
			continue
		}
		if d, e := sprt.Decide(x.t, -1, 0); d != 0 || e != api.ErrArgument {
			t.Error("P52.1: Decide", k, e)
		}
		if d, n, e := sprt.Run(x.t, make([]bool, 41)); d != 0 || n != 0 || e != api.ErrArgument {
			t.Error("P52.1: Run", k, e)
		}
		if l, e := sprt.Ends(x.t, -1); len(l) != 0 || e != api.ErrArgument {
			t.Error("P52.1: Ends", k, e)
		}
	}
	for _, x := range [][2]int{{-1, 0}, {0, -1}, {41, 0}, {20, 21}, {1<<63 - 1, 1<<63 - 1}} {
		if d, e := sprt.Decide(example, x[0], x[1]); d != 0 || e != api.ErrRange {
			t.Error("P52.1: Decide", x, e)
		}
	}
	if d, n, e := sprt.Run(example, make([]bool, 41)); d != 0 || n != 0 || e != api.ErrLimit {
		t.Error("P52.1: Run", e)
	}
	for _, n := range []int{-1, 31} {
		if l, e := sprt.Ends(example, n); len(l) != 0 || e != api.ErrRange {
			t.Error("P52.1: Ends", n, e)
		}
	}
}
