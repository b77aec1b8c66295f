package window_test

import (
	"math/big"
	"math/rand"
	"testing"
)

// call is one call of Admit, over what the one ahead of it answered.
type call struct{ now, n uint64 }

// run makes the calls one behind the other from index 0 and count 0 on, and adds up, window by window, what was admitted.
func run(t *testing.T, limit, span uint64, calls []call) map[uint64]*big.Int {
	t.Helper()
	sums := map[uint64]*big.Int{}
	a := ask{limit: limit, span: span}
	for _, c := range calls {
		index, count, ok := a.at(c.now).units(c.n).admit()
		a = a.over(index, count)
		if !ok {
			continue
		}
		if span == 0 {
			t.Fatalf("P5.5: with span 0, Admit%v is true", a.at(c.now).units(c.n))
		}
		w := c.now / span
		if sums[w] == nil {
			sums[w] = new(big.Int)
		}
		if sums[w].Add(sums[w], whole(c.n)); !atMost(sums[w], limit) {
			t.Fatalf("P5.5: with limit %d and span %d %d units are admitted in window %d, by %v", limit, span, sums[w], w, calls)
		}
	}
	return sums
}

// everyThree goes through all three calls of a list.
func everyThree(list []call, do func([]call)) {
	for _, first := range list {
		for _, second := range list {
			for _, third := range list {
				do([]call{first, second, third})
			}
		}
	}
}

// TestLimitOfEveryThreeCalls has windows ahead, the same one, and going back to an earlier one.
func TestLimitOfEveryThreeCalls(t *testing.T) {
	var list []call
	for now := range uint64(6) {
		for n := range uint64(4) {
			list = append(list, call{now, n})
		}
	}
	for limit := range uint64(4) {
		for span := range uint64(4) {
			everyThree(list, func(calls []call) { run(t, limit, span, calls) })
		}
	}
}

// TestLimitAtTheEdges: also sums of units beyond 64 bits, and the first and the last times.
func TestLimitAtTheEdges(t *testing.T) {
	var list []call
	for _, now := range []uint64{0, 1, 1 << 63, m - 1, m} {
		for _, n := range []uint64{0, 1, 2, 1 << 63, m - 1, m} {
			list = append(list, call{now, n})
		}
	}
	for _, limit := range []uint64{0, 1, 2, 1 << 63, m - 1, m} {
		for _, span := range []uint64{0, 1, 10, 1 << 63, m} {
			everyThree(list, func(calls []call) { run(t, limit, span, calls) })
		}
	}
}

// drawnCalls are at times of a few windows from first on, to and fro, of units about the limit and below it.
func drawnCalls(r *rand.Rand, limit, span, first uint64) []call {
	var calls []call
	for range 60 {
		now := min(span, m/8)*uint64(r.Intn(4)) + anyNumber(r)%span
		calls = append(calls, call{min(now, m-first) + first, limit >> r.Intn(8) % max(limit, 1)})
		if r.Intn(8) == 0 {
			calls[len(calls)-1].n = near(r, whole(limit))
		}
	}
	return calls
}

func TestLimitOfManyCalls(t *testing.T) {
	r := rand.New(rand.NewSource(57))
	full, several := 0, 0
	for range 5000 {
		limit, span := anyNumber(r), max(anyNumber(r)>>r.Intn(64), 1)
		sums := run(t, limit, span, drawnCalls(r, limit, span, anyNumber(r)))
		if len(sums) > 1 {
			several++
		}
		for _, sum := range sums {
			if sum.Cmp(whole(limit)) == 0 {
				full++
			}
		}
	}
	if full < 500 || several < 500 {
		t.Errorf("P5.5: %d windows were filled, %d runs admitted in several, want 500 and more", full, several)
	}
}

// TestLimitIsReached fills two windows, and then asks for more in both.
func TestLimitIsReached(t *testing.T) {
	for _, limit := range []uint64{1, 2, 7, 1 << 63, m} {
		for _, span := range []uint64{1, 10, 1 << 62} {
			filling := []call{{0, limit - limit/2}, {span - 1, limit / 2}, {span, limit}}
			more := []call{{2*span - 1, 1}, {span, limit}, {0, limit}, {0, 1}, {span, 1}}
			sums := run(t, limit, span, append(filling, more...))
			for w := range uint64(2) {
				if sums[w] == nil || sums[w].Cmp(whole(limit)) != 0 {
					t.Errorf("P5.5: with limit %d and span %d %d units are admitted in window %d", limit, span, sums[w], w)
				}
			}
		}
	}
}
