package window_test

import (
	"fmt"
	"math/big"
	"math/rand"
	"testing"

	"turnstile/window"
)

const m = 1<<64 - 1

// ask is what the rule is asked.
type ask struct{ limit, span, index, count, now, n uint64 }

func (a ask) String() string {
	return fmt.Sprintf("(limit %d, span %d, index %d, count %d, now %d, n %d)", a.limit, a.span, a.index, a.count, a.now, a.n)
}

func (a ask) at(now uint64) ask            { a.now = now; return a }
func (a ask) units(n uint64) ask           { a.n = n; return a }
func (a ask) over(index, count uint64) ask { a.index, a.count = index, count; return a }

func (a ask) admit() (uint64, uint64, bool) {
	return window.Admit(a.limit, a.span, a.index, a.count, a.now, a.n)
}
func (a ask) retry() uint64 {
	return window.Retry(a.limit, a.span, a.index, a.count, a.now, a.n)
}
func (a ask) left() uint64 { return window.Left(a.limit, a.span, a.index, a.count, a.now) }

// admitted asks Admit for its last answer alone.
func (a ask) admitted() bool {
	_, _, ok := a.admit()
	return ok
}

func whole(x uint64) *big.Int          { return new(big.Int).SetUint64(x) }
func plus(a, b *big.Int) *big.Int      { return new(big.Int).Add(a, b) }
func times(a, b *big.Int) *big.Int     { return new(big.Int).Mul(a, b) }
func atMost(x *big.Int, y uint64) bool { return x.Cmp(whole(y)) <= 0 }

// want is what Admit has to answer: the rule as the chapter writes it, in numbers without bound.
func (a ask) want() (uint64, uint64, bool) {
	if a.span == 0 || a.n == 0 {
		return a.index, a.count, false
	}
	w := new(big.Int).Quo(whole(a.now), whole(a.span))
	place := w.Cmp(whole(a.index))
	if place > 0 && a.n <= a.limit {
		return w.Uint64(), a.n, true
	}
	both := plus(whole(a.count), whole(a.n))
	if place == 0 && atMost(both, a.limit) {
		return a.index, both.Uint64(), true
	}
	return a.index, a.count, false
}

// allowed is want's last answer alone.
func (a ask) allowed() bool {
	_, _, ok := a.want()
	return ok
}

// edges: the ends, the middle, and small numbers; every six of them can be gone through.
func edges() []uint64 { return []uint64{0, 1, 2, 10, 1 << 32, 1<<63 - 1, 1 << 63, m - 1, m} }

// small numbers: of every six of them all times can be gone through.
func small() []uint64 { return []uint64{0, 1, 2, 3, 5, 9} }

func everySix(list []uint64, do func(ask)) {
	for _, limit := range list {
		for _, span := range list {
			for _, index := range list {
				for _, count := range list {
					for _, now := range list {
						for _, n := range list {
							do(ask{limit, span, index, count, now, n})
						}
					}
				}
			}
		}
	}
}

// everyLast gives asks over the last windows and the numbers next to them, at the last times.
func everyLast(do func(ask)) {
	for _, span := range []uint64{1, 2, 3, 4, 5, 7, 10, 16, 17, 30} {
		everySix([]uint64{0, 1, 2, 3}, func(a ask) {
			if a.span > 0 { // once for each of the others
				return
			}
			a.span = span
			a.index = min(m/span, m-1) - 2 + a.index // with span 1 there is none above the last one
			for _, before := range []uint64{0, 1, span - 1, span, span + 1, 2 * span, 3 * span} {
				do(a.at(m - before - a.now))
			}
		})
	}
}

// anyNumber is of any length in bits, from either end.
func anyNumber(r *rand.Rand) uint64 {
	x := r.Uint64() >> r.Intn(65)
	if r.Intn(4) == 0 {
		return m - x
	}
	return x
}

// near is x moved by at most two, and stopped at the ends.
func near(r *rand.Rand, x *big.Int) uint64 {
	y := plus(x, big.NewInt(int64(r.Intn(5)-2)))
	if y.Sign() < 0 {
		return 0
	}
	if !y.IsUint64() {
		return m
	}
	return y.Uint64()
}

func anyAsk(r *rand.Rand) ask {
	return ask{anyNumber(r), anyNumber(r), anyNumber(r), anyNumber(r), anyNumber(r), anyNumber(r)}
}

// tightAsk is one close to what decides: the index to now's window or to the last one, now to a window's start, the units to what is left.
func tightAsk(r *rand.Rand) ask {
	a := anyAsk(r)
	a.span = max(a.span, 1)
	switch r.Intn(4) {
	case 0:
		a.index = near(r, whole(a.now/a.span))
	case 1:
		a.index = near(r, whole(m/a.span))
	case 2:
		a.index %= m / a.span
		a.now = near(r, times(whole(a.span), whole(a.index)))
	case 3:
		a.index %= m / a.span
		a.now = near(r, times(whole(a.span), plus(whole(a.index), whole(1))))
	}
	switch r.Intn(3) {
	case 0:
		a.count = a.limit - min(a.limit, a.count)
		a.n = near(r, whole(a.limit-a.count))
	case 1:
		a.n = near(r, whole(a.limit))
	case 2:
		a.n = near(r, plus(whole(m), new(big.Int).Neg(whole(a.count)))) // count + n is about 2^64
		a.limit = near(r, whole(m))
	}
	return a
}

// someAsks gives asks of all kinds, always the same ones.
func someAsks(seed int64, count int, do func(*rand.Rand, ask)) {
	r := rand.New(rand.NewSource(seed))
	for i := range count {
		if i%4 == 0 {
			do(r, anyAsk(r))
		} else {
			do(r, tightAsk(r))
		}
	}
}

// TestAsksAreOfAllKinds holds the drawn asks to what the other tests need of them.
func TestAsksAreOfAllKinds(t *testing.T) {
	kinds := map[string]int{}
	someAsks(1, 20000, func(_ *rand.Rand, a ask) {
		if a.span == 0 {
			kinds["span 0"]++
			return
		}
		w, both := a.now/a.span, plus(whole(a.count), whole(a.n))
		place := whole(w).Cmp(whole(a.index))
		if place == 0 {
			kinds[fmt.Sprint("count and n to limit ", both.Cmp(whole(a.limit)))]++
		}
		kinds[fmt.Sprint("window to index ", place)]++
		kinds[fmt.Sprint("n to limit ", whole(a.n).Cmp(whole(a.limit)))]++
		kinds[fmt.Sprint("window to index ", place, ", admitted ", a.allowed())]++
		kinds[fmt.Sprint("count and n fit ", both.IsUint64(), ", admitted ", a.allowed())]++
		kinds[fmt.Sprint("count above limit ", a.count > a.limit)]++
		kinds[fmt.Sprint("in the last window ", w == m/a.span)]++
		kinds[fmt.Sprint("index to the last ", whole(a.index).Cmp(whole(m/a.span)))]++
	})
	wanted := []string{"span 0", "count and n to limit -1", "count and n to limit 0", "count and n to limit 1", "window to index -1",
		"n to limit -1", "n to limit 0", "n to limit 1", "window to index 0, admitted true", "window to index 0, admitted false",
		"window to index 1, admitted true", "window to index 1, admitted false", "count and n fit false, admitted false",
		"count and n fit true, admitted true", "count above limit true", "count above limit false", "in the last window true",
		"index to the last -1", "index to the last 0", "index to the last 1"}
	for _, kind := range wanted {
		if kinds[kind] < 100 {
			t.Errorf("%d asks of the kind %s, want 100 and more", kinds[kind], kind)
		}
	}
}
