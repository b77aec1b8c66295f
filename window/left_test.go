package window_test

import (
	"math/rand"
	"testing"
)

// expectLeft asks that so many are admitted, and one more aren't: by the rule, and by Admit.
func expectLeft(t *testing.T, a ask) {
	t.Helper()
	left := a.left()
	for _, admits := range []func(ask) bool{ask.allowed, ask.admitted} {
		if left > 0 && !admits(a.units(left)) {
			t.Fatalf("P5.4: Left%v is %d, but so many aren't admitted", a, left)
		}
		if left < m && admits(a.units(left+1)) {
			t.Fatalf("P5.4: Left%v is %d, but one more is admitted", a, left)
		}
	}
}

func TestLeftExamples(t *testing.T) {
	rows := []struct {
		ask
		want uint64
	}{
		{ask{5, 10, 3, 4, 39, 0}, 1},
		{ask{5, 10, 3, 4, 30, 0}, 1},
		{ask{5, 10, 3, 4, 40, 0}, 5},
		{ask{5, 10, 3, 4, 29, 0}, 0},
		{ask{5, 10, 3, 4, 0, 0}, 0},
		{ask{5, 10, 3, 0, 39, 0}, 5},
		{ask{5, 10, 3, 5, 39, 0}, 0},
		{ask{5, 10, 3, 6, 39, 0}, 0},
		{ask{5, 10, 3, 9, 39, 0}, 0}, // count is above limit
		{ask{5, 10, 3, m, 39, 0}, 0},
		{ask{5, 10, 3, 9, 40, 0}, 5},
		{ask{0, 10, 3, 0, 39, 0}, 0},
		{ask{0, 10, 3, 4, 40, 0}, 0},
		{ask{5, 0, 0, 0, 0, 0}, 0},
		{ask{5, 0, 0, 0, 7, 0}, 0},
		{ask{m, 10, 0, 0, 0, 0}, m},
		{ask{m, 10, 0, 1, 0, 0}, m - 1},
		{ask{m, 10, 0, m - 1, 0, 0}, 1},
		{ask{m, 10, 0, m, 0, 0}, 0},
		{ask{m, 10, 0, m, 10, 0}, m},
		{ask{m - 1, 10, 0, m, 0, 0}, 0},
		{ask{5, 1, m, 4, m, 0}, 1},
		{ask{5, 1, m, 4, m - 1, 0}, 0},
		{ask{5, 1, m - 1, 4, m, 0}, 5},
		{ask{5, m, 0, 4, m - 1, 0}, 1},
		{ask{5, m, 0, 4, m, 0}, 5},
		{ask{5, 10, m, 0, m, 0}, 0},
	}
	for _, row := range rows {
		if have := row.left(); have != row.want {
			t.Errorf("P5.4: Left%v is %d, want %d", row.ask, have, row.want)
		}
	}
}

// TestLeftOfSmallNumbers counts upwards, and finds also that all below the greatest are admitted.
func TestLeftOfSmallNumbers(t *testing.T) {
	everySix(small(), func(a ask) {
		want := uint64(0)
		for a.units(want + 1).allowed() {
			want++
		}
		if have := a.left(); have != want {
			t.Fatalf("P5.4: Left%v is %d, want %d", a, have, want)
		}
	})
}

func TestLeftInTheLastWindows(t *testing.T) {
	everyLast(func(a ask) { expectLeft(t, a) })
}

func TestLeftAtTheEdges(t *testing.T) {
	everySix(edges(), func(a ask) { expectLeft(t, a) })
}

func TestLeftOfAnyNumbers(t *testing.T) {
	someAsks(56, 100000, func(_ *rand.Rand, a ask) { expectLeft(t, a) })
}
