package gcra_test

import (
	"math/rand"
	"testing"
)

// expectBurst asks that so many are admitted, and one more aren't.
func expectBurst(t *testing.T, a ask) {
	t.Helper()
	burst := a.burst()
	if burst > 0 && !a.units(burst).allowed() {
		t.Fatalf("P4.3: Burst%v is %d, but so many aren't admitted", a, burst)
	}
	if burst < m && a.units(burst+1).allowed() {
		t.Fatalf("P4.3: Burst%v is %d, but one more is admitted", a, burst)
	}
}

func TestBurstExamples(t *testing.T) {
	rows := []struct {
		ask
		want uint64
	}{
		{ask{10, 20, 0, 100, 0}, 3},
		{ask{10, 20, 130, 100, 0}, 0},
		{ask{10, 20, 120, 100, 0}, 1},
		{ask{10, 20, 121, 100, 0}, 0},
		{ask{10, 0, 110, 105, 0}, 0},
		{ask{10, 9, 0, 100, 0}, 1},
		{ask{10, 10, 0, 100, 0}, 2},
		{ask{0, 5, 0, 0, 0}, 0},
		{ask{0, m, 0, 0, 0}, 0},
		{ask{1 << 63, m, 0, 0, 0}, 1},
		{ask{1, m, 0, 0, 0}, m},
		{ask{1, m - 1, 0, 0, 0}, m},
		{ask{1, m - 2, 0, 0, 0}, m - 1},
		{ask{1, m, 0, m, 0}, 0},
		{ask{1, m, m, 0, 0}, 0},
		{ask{1, m, m - 4, m, 0}, 0},
		{ask{1, m, m - 4, m - 5, 0}, 4},
		{ask{10, m, m - 19, 0, 0}, 1},
		{ask{10, m, m - 20, 0, 0}, 2},
	}
	for _, row := range rows {
		if have := row.burst(); have != row.want {
			t.Errorf("P4.3: Burst%v is %d, want %d", row.ask, have, row.want)
		}
	}
}

// TestBurstOfSmallNumbers counts upwards, and finds also that all below the greatest are admitted.
func TestBurstOfSmallNumbers(t *testing.T) {
	everyFive([]uint64{0, 1, 2, 3, 5, 9}, func(a ask) {
		want := uint64(0)
		for a.units(want + 1).allowed() {
			want++
		}
		if have := a.burst(); have != want {
			t.Fatalf("P4.3: Burst%v is %d, want %d", a, have, want)
		}
	})
}

func TestBurstAtTheEdges(t *testing.T) {
	everyFive(edges(), func(a ask) { expectBurst(t, a) })
}

func TestBurstOfAnyNumbers(t *testing.T) {
	someAsks(44, 100000, func(_ *rand.Rand, a ask) { expectBurst(t, a) })
}

// expectSplit asks that first units and then the rest of n at one time are all n of them.
func expectSplit(t *testing.T, a ask, first uint64) bool {
	t.Helper()
	whole, ok := a.admit()
	middle, firstOk := a.units(first).admit()
	both, restOk := a.over(middle).units(a.n - first).admit()
	if ok != (firstOk && restOk) || ok && both != whole {
		t.Fatalf("P4.3: Admit%v is %d, %v; of %d, %d, %v, and then of the rest %d, %v", a, whole, ok, first, middle, firstOk, both, restOk)
	}
	return ok
}

func TestAdmitInTwoParts(t *testing.T) {
	admitted := 0
	someAsks(45, 100000, func(r *rand.Rand, a ask) {
		if a.n < 2 {
			return
		}
		for _, first := range []uint64{1, a.n - 1, 1 + between(r, 0, a.n-1)} {
			if expectSplit(t, a, first) {
				admitted++
			}
		}
	})
	if admitted < 1000 {
		t.Errorf("P4.3: %d were admitted in two parts, want 1000 and more", admitted)
	}
}

func TestAdmitOfSmallNumbersInTwoParts(t *testing.T) {
	everyFive([]uint64{0, 1, 2, 3, 5, 9}, func(a ask) {
		for first := uint64(1); first < a.n; first++ {
			expectSplit(t, a, first)
			near := a
			near.tat, near.now = m-3*a.tat, m-3*a.now
			expectSplit(t, near, first)
		}
	})
}
