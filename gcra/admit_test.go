package gcra_test

import (
	"math/rand"
	"testing"
)

func expectAdmit(t *testing.T, a ask) {
	t.Helper()
	tat, ok := a.admit()
	wantTat, wantOk := a.want()
	if tat != wantTat || ok != wantOk {
		t.Fatalf("P4.1: Admit%v is %d, %v, want %d, %v", a, tat, ok, wantTat, wantOk)
	}
}

func TestAdmitExamples(t *testing.T) {
	rows := []struct {
		ask
		want uint64
		ok   bool
	}{
		{ask{10, 0, 0, 100, 1}, 110, true},
		{ask{10, 0, 110, 105, 1}, 110, false},
		{ask{10, 5, 110, 105, 1}, 120, true},
		{ask{10, 20, 0, 100, 3}, 130, true},
		{ask{10, 20, 0, 100, 4}, 0, false},
		{ask{10, 0, 0, 0, 0}, 0, false},
		{ask{0, 5, 0, 0, 1}, 0, false},
		{ask{1, 0, 0, m - 1, 1}, m, true},
		{ask{1, 0, 0, m, 1}, 0, false},
		{ask{m, 0, 0, 0, 1}, m, true},
		{ask{1 << 63, m, 0, 0, 2}, 0, false},
	}
	for _, row := range rows {
		if tat, ok := row.admit(); tat != row.want || ok != row.ok {
			t.Errorf("P4.1: Admit%v is %d, %v, want %d, %v", row.ask, tat, ok, row.want, row.ok)
		}
	}
}

// TestAdmitOfNothing: no units, or no gap, leave tat as it was, whatever the rest.
func TestAdmitOfNothing(t *testing.T) {
	for _, x := range edges() {
		for _, tat := range edges() {
			for _, a := range []ask{{x, m, tat, 7, 0}, {0, m, tat, 7, x}, {0, m, tat, x, 0}, {0, x, tat, m, 1}} {
				if have, ok := a.admit(); have != tat || ok {
					t.Fatalf("P4.1: Admit%v is %d, %v, want %d, false", a, have, ok, tat)
				}
			}
		}
	}
}

// oneByOne admits the units singly, each by its own time: the n-th comes n - 1 gaps behind base.
func oneByOne(a ask) (uint64, bool) {
	comes := max(a.tat, a.now)
	for range a.n {
		if comes > a.now+a.slack {
			return a.tat, false
		}
		comes += a.gap
	}
	if a.n == 0 || a.gap == 0 {
		return a.tat, false
	}
	return comes, true
}

func TestAdmitOfSmallNumbersOneByOne(t *testing.T) {
	everyFive([]uint64{0, 1, 2, 3, 4, 5, 6, 7, 8, 9}, func(a ask) {
		tat, ok := a.admit()
		if wantTat, wantOk := oneByOne(a); tat != wantTat || ok != wantOk {
			t.Fatalf("P4.1: Admit%v is %d, %v, want %d, %v", a, tat, ok, wantTat, wantOk)
		}
	})
}

func TestAdmitAtTheEdges(t *testing.T) {
	everyFive(edges(), func(a ask) { expectAdmit(t, a) })
}

func TestAdmitOfAnyNumbers(t *testing.T) {
	someAsks(41, 100000, func(_ *rand.Rand, a ask) { expectAdmit(t, a) })
}

// TestAdmitAroundTheSlack: the last unit comes one ahead of the latest time, at it, and one behind it; now is below, at and above tat.
func TestAdmitAroundTheSlack(t *testing.T) {
	for _, now := range []uint64{950, 999, 1000, 1001, 5000} {
		for _, n := range []uint64{1, 2, 7} {
			tight := max(1000, now) - now + (n-1)*10
			for slack := max(tight, 1) - 1; slack <= tight+1; slack++ {
				a := ask{10, slack, 1000, now, n}
				if _, ok := a.admit(); ok != (slack >= tight) {
					t.Errorf("P4.1: Admit%v is %v, and the least slack is %d", a, ok, tight)
				}
				expectAdmit(t, a)
			}
		}
	}
}

// TestAdmitAroundTheEnd: the new tat is one below 2^64 - 1, just that, and one above.
func TestAdmitAroundTheEnd(t *testing.T) {
	for _, gap := range []uint64{1, 2, 10, 1 << 32, 1 << 60} {
		for _, n := range []uint64{1, 2, 3, 15} {
			for over := range uint64(3) {
				base := m - gap*n - 1 + over
				for _, a := range []ask{{gap, m, base, 0, n}, {gap, m, 0, base, n}, {gap, m, base, base, n}, {gap, m, base, base - 1, n}} {
					if tat, ok := a.admit(); ok != (over <= 1) || ok && tat != m-1+over {
						t.Errorf("P4.1: Admit%v is %d, %v, with %d units too much for 2^64 - 2", a, tat, ok, over)
					}
				}
			}
		}
	}
}

// TestAdmitOfProductsBeyond64Bits: products and sums that would seem small if they were cut to 64 bits.
func TestAdmitOfProductsBeyond64Bits(t *testing.T) {
	for _, a := range []ask{
		{1 << 32, 100, 0, 0, 1 << 32},       // n * gap is 2^64
		{1 << 32, 100, 0, 0, 1<<32 + 1},     // (n - 1) * gap is 2^64, too
		{1 << 63, 0, 5, 5, 3},               // (n - 1) * gap is 2^64
		{1 << 63, m, m, m, 4},               // n * gap is 2^65
		{m, m, m, m, m},                     // the greatest sum of all, 2^128 - 2^64
		{m, m, 0, 0, m},                     // n * gap is 2^128 - 2^65 + 1
		{m, m, m, 0, 1},                     // base + n * gap is 2^65 - 2
		{1, 0, m, m, 1},                     // it is 2^64
		{6700417, 3, 2, 1, 2753074036096},   // n * gap is a little above 2^64
		{3, 2, 1, 0, 6148914691236517206},   // n * gap is 2^64 + 2
		{10, 20, 0, 0, 1844674407370955162}, // n * gap is 2^64 + 4
	} {
		if tat, ok := a.admit(); tat != a.tat || ok {
			t.Errorf("P4.1: Admit%v is %d, %v, want %d, false", a, tat, ok, a.tat)
		}
		expectAdmit(t, a)
	}
	for _, a := range []ask{
		{10, m, m - 100, m - 105, 3}, // now + slack is above 2^64
		{10, m, m - 100, m - 105, 10},
		{1, m, m - 1, 0, 1},
		{1, m, 0, 0, m}, // (n - 1) * gap + base is 2^64 - 2
	} {
		if _, ok := a.admit(); !ok {
			t.Errorf("P4.1: Admit%v isn't admitted", a)
		}
		expectAdmit(t, a)
	}
}
