package gcra_test

import (
	"fmt"
	"math/big"
	"math/rand"
	"testing"

	"turnstile/gcra"
)

const m = 1<<64 - 1

// ask is what the rule is asked.
type ask struct{ gap, slack, tat, now, n uint64 }

func (a ask) String() string {
	return fmt.Sprintf("(gap %d, slack %d, tat %d, now %d, n %d)", a.gap, a.slack, a.tat, a.now, a.n)
}

func (a ask) at(now uint64) ask   { a.now = now; return a }
func (a ask) over(tat uint64) ask { a.tat = tat; return a }
func (a ask) units(n uint64) ask  { a.n = n; return a }

func (a ask) admit() (uint64, bool) { return gcra.Admit(a.gap, a.slack, a.tat, a.now, a.n) }
func (a ask) retry() uint64         { return gcra.Retry(a.gap, a.slack, a.tat, a.now, a.n) }
func (a ask) burst() uint64         { return gcra.Burst(a.gap, a.slack, a.tat, a.now) }
func (a ask) delay() uint64         { return gcra.Delay(a.gap, a.slack, a.tat, a.now) }

func whole(x uint64) *big.Int { return new(big.Int).SetUint64(x) }

// line is start + gap * k, without bound.
func line(start, gap uint64, k *big.Int) *big.Int {
	x := new(big.Int).Mul(whole(gap), k)
	return x.Add(x, whole(start))
}

// next is base + n * gap, without bound.
func (a ask) next() *big.Int { return line(max(a.tat, a.now), a.gap, whole(a.n)) }

// last is base + (n - 1) * gap, without bound.
func (a ask) last() *big.Int {
	return line(max(a.tat, a.now), a.gap, new(big.Int).Sub(whole(a.n), whole(1)))
}

// allowed is the rule as the chapter writes it, in numbers without bound.
func (a ask) allowed() bool {
	if a.n == 0 || a.gap == 0 {
		return false
	}
	latest := new(big.Int).Add(whole(a.now), whole(a.slack))
	return a.last().Cmp(latest) <= 0 && a.next().Cmp(whole(m)) <= 0
}

// want is what Admit has to answer.
func (a ask) want() (uint64, bool) {
	if !a.allowed() {
		return a.tat, false
	}
	return a.next().Uint64(), true
}

// edges: the ends, the middle, and small numbers; every five of them can be gone through.
func edges() []uint64 {
	return []uint64{0, 1, 2, 3, 10, 1<<32 - 1, 1 << 32, 1<<63 - 1, 1 << 63, 1<<63 + 1, m - 10, m - 1, m}
}

func everyFive(list []uint64, do func(ask)) {
	for _, gap := range list {
		for _, slack := range list {
			for _, tat := range list {
				for _, now := range list {
					for _, n := range list {
						do(ask{gap, slack, tat, now, n})
					}
				}
			}
		}
	}
}

// anyNumber is of any length in bits, from either end.
func anyNumber(r *rand.Rand) uint64 {
	x := r.Uint64() >> r.Intn(65)
	if r.Intn(4) == 0 {
		return m - x
	}
	return x
}

// near is x moved by at most two, and stopped at the ends.
func near(r *rand.Rand, x *big.Int) uint64 {
	y := new(big.Int).Add(x, big.NewInt(int64(r.Intn(5)-2)))
	if y.Sign() < 0 {
		return 0
	}
	if !y.IsUint64() {
		return m
	}
	return y.Uint64()
}

func anyAsk(r *rand.Rand) ask {
	return ask{anyNumber(r), anyNumber(r), anyNumber(r), anyNumber(r), anyNumber(r)}
}

// tightAsk is one whose units are just admitted or just not: by the slack, by the end of the numbers, or by both.
func tightAsk(r *rand.Rand) ask {
	a := anyAsk(r)
	a.n = 1 + a.n>>r.Intn(64)%1000
	if r.Intn(2) == 0 {
		a.gap %= 1 << (1 + r.Intn(50))
	}
	if r.Intn(2) == 0 {
		a.now = near(r, whole(a.tat))
	}
	if r.Intn(2) == 0 {
		base := near(r, new(big.Int).Sub(whole(m), line(0, a.gap, whole(a.n))))
		a.tat, a.now = base, base-base>>r.Intn(65)
		if r.Intn(2) == 0 {
			a.tat, a.now = a.now, a.tat
		}
	}
	if r.Intn(4) > 0 {
		a.slack = near(r, new(big.Int).Sub(a.last(), whole(a.now)))
	}
	return a
}

// someAsks gives asks of all kinds, always the same ones.
func someAsks(seed int64, count int, do func(*rand.Rand, ask)) {
	r := rand.New(rand.NewSource(seed))
	for i := range count {
		if i%4 == 0 {
			do(r, anyAsk(r))
		} else {
			do(r, tightAsk(r))
		}
	}
}

// TestAsksAreOfAllKinds holds the drawn asks to what the other tests need of them.
func TestAsksAreOfAllKinds(t *testing.T) {
	kinds := map[string]int{}
	someAsks(1, 20000, func(_ *rand.Rand, a ask) {
		late := a.last().Cmp(new(big.Int).Add(whole(a.now), whole(a.slack)))
		end := a.next().Cmp(whole(m))
		kinds[fmt.Sprint("slack ", late)]++
		kinds[fmt.Sprint("end ", end)]++
		kinds[fmt.Sprint("admitted ", a.allowed())]++
		kinds[fmt.Sprint("admitted, and ahead of tat ", a.allowed() && a.now < a.tat)]++
		kinds[fmt.Sprint("both just hold ", late == 0 && end == 0)]++
	})
	wanted := []string{"slack -1", "slack 0", "slack 1", "end -1", "end 0", "end 1", "admitted true", "admitted false",
		"admitted, and ahead of tat true", "both just hold true"}
	for _, kind := range wanted {
		if kinds[kind] < 100 {
			t.Errorf("%d asks of the kind %s, want 100 and more", kinds[kind], kind)
		}
	}
}
