package sat_test

import (
	"math/big"
	"math/rand"
	"testing"

	"turnstile/sat"
)

func TestDivModExamples(t *testing.T) {
	rows := []struct {
		w         sat.Wide
		d         uint64
		quotient  sat.Wide
		remainder uint64
	}{
		{sat.Wide{High: 1}, 10, sat.Wide{Low: 1844674407370955161}, 6},
		{sat.Wide{High: m, Low: m}, m, sat.Wide{High: 1, Low: 1}, 0},
		{sat.Wide{High: 5, Low: 5}, 0, sat.Wide{}, 0},
		{sat.Wide{High: 5, Low: 5}, 1, sat.Wide{High: 5, Low: 5}, 0},
		// the quotient's High is 0 up to the first number, and 1 from the second one on
		{sat.Wide{High: m - 1, Low: m}, m, sat.Wide{Low: m}, m - 1},
		{sat.Wide{High: m, Low: 0}, m, sat.Wide{High: 1}, 0},
		{sat.Wide{High: 9, Low: m}, 10, sat.Wide{Low: m}, 9},
		{sat.Wide{High: 10, Low: 0}, 10, sat.Wide{High: 1}, 0},
		{sat.Wide{High: 10, Low: 9}, 10, sat.Wide{High: 1}, 9},
		// below the divisor
		{sat.Wide{}, 7, sat.Wide{}, 0},
		{sat.Wide{Low: 6}, 7, sat.Wide{}, 6},
		{sat.Wide{Low: 7}, 7, sat.Wide{Low: 1}, 0},
		{sat.Wide{Low: m - 1}, m, sat.Wide{}, m - 1},
		{sat.Wide{Low: m}, m, sat.Wide{Low: 1}, 0},
		{sat.Wide{High: 1, Low: 0}, m, sat.Wide{Low: 1}, 1},
		// powers of two
		{sat.Wide{High: 3, Low: 5}, 2, sat.Wide{High: 1, Low: 1<<63 + 2}, 1},
		{sat.Wide{High: 3, Low: 5}, 1 << 63, sat.Wide{Low: 6}, 5},
		{sat.Wide{High: m, Low: m}, 1 << 32, sat.Wide{High: 1<<32 - 1, Low: m}, 1<<32 - 1},
		// by 0
		{sat.Wide{}, 0, sat.Wide{}, 0},
		{sat.Wide{Low: 5}, 0, sat.Wide{}, 0},
		{sat.Wide{High: m, Low: m}, 0, sat.Wide{}, 0},
	}
	for _, row := range rows {
		if q, r := row.w.DivMod(row.d); q != row.quotient || r != row.remainder {
			t.Errorf("P3.5: %v.DivMod(%d) is %v, %d, want %v, %d", row.w, row.d, q, r, row.quotient, row.remainder)
		}
	}
}

// expectDivided asks for w's quotient and remainder by d, both by the promise's own words and by the plain reckoning.
func expectDivided(t *testing.T, w sat.Wide, d uint64) {
	t.Helper()
	q, r := w.DivMod(d)
	if d == 0 {
		if q != (sat.Wide{}) || r != 0 {
			t.Fatalf("P3.5: %v.DivMod(0) is %v, %d, want zeros", w, q, r)
		}
		return
	}
	back := sum(product(wholeWide(q), whole(d)), whole(r))
	if back.Cmp(wholeWide(w)) != 0 || r >= d {
		t.Fatalf("P3.5: %v.DivMod(%d) is %v, %d, which together are %d", w, d, q, r, back)
	}
	quotient, remainder := new(big.Int).QuoRem(wholeWide(w), whole(d), new(big.Int))
	if q != wideOf(quotient) || r != remainder.Uint64() {
		t.Fatalf("P3.5: %v.DivMod(%d) is %v, %d, want %d, %d", w, d, q, r, quotient, remainder)
	}
}

func TestDivModAtTheEdges(t *testing.T) {
	for _, w := range wideEdges() {
		for _, d := range edges() {
			expectDivided(t, w, d)
		}
	}
}

// TestDivModAroundProducts divides what is just below, at and just above a multiple of the divisor.
func TestDivModAroundProducts(t *testing.T) {
	one := sat.Of(1)
	for _, d := range edges() {
		for _, q := range edges() {
			w := sat.Product(q, d)
			expectDivided(t, w.Minus(one), d)
			expectDivided(t, w, d)
			expectDivided(t, w.Plus(one), d)
		}
	}
}

func TestDivModOfAnyWides(t *testing.T) {
	random := rand.New(rand.NewSource(6))
	for range 50000 {
		w, d := anyWide(random), anyNumber(random)
		expectDivided(t, w, d)
		expectDivided(t, sat.Wide{High: w.High % max(d, 1), Low: w.Low}, d) // the quotient's High is 0
	}
}
