package window_test

import (
	"math/rand"
	"testing"
)

func expectAdmit(t *testing.T, a ask) {
	t.Helper()
	index, count, ok := a.admit()
	wantIndex, wantCount, wantOk := a.want()
	if index != wantIndex || count != wantCount || ok != wantOk {
		t.Fatalf("P5.2: Admit%v is %d, %d, %v, want %d, %d, %v", a, index, count, ok, wantIndex, wantCount, wantOk)
	}
}

func TestAdmitExamples(t *testing.T) {
	rows := []struct {
		ask
		index, count uint64
		ok           bool
	}{
		{ask{5, 10, 3, 4, 39, 1}, 3, 5, true},
		{ask{5, 10, 3, 4, 39, 2}, 3, 4, false},
		{ask{5, 10, 3, 4, 40, 5}, 4, 5, true},
		{ask{5, 10, 3, 4, 40, 6}, 3, 4, false},
		{ask{5, 10, 3, 4, 29, 1}, 3, 4, false},
		{ask{5, 10, 3, 4, 30, 1}, 3, 5, true},
		{ask{5, 10, 3, 4, 75, 1}, 7, 1, true},
		{ask{5, 10, 3, 4, 39, 0}, 3, 4, false},
		{ask{5, 10, 3, 4, 40, 0}, 3, 4, false},
		{ask{m, 10, 0, m, 0, 1}, 0, m, false},
		{ask{m, 10, 0, m - 1, 0, 1}, 0, m, true},
		{ask{m, 10, 0, 0, 0, m}, 0, m, true},
		{ask{m, 10, 0, 1, 0, m}, 0, 1, false},
		{ask{m, 10, 0, m, 10, m}, 1, m, true},
		{ask{m, 10, 0, m, 0, m}, 0, m, false},
		{ask{5, 10, 3, 9, 39, 1}, 3, 9, false}, // count is above limit
		{ask{5, 10, 3, 9, 40, 5}, 4, 5, true},
		{ask{5, 10, 3, m, 39, 1}, 3, m, false},
		{ask{5, 10, 3, m, 39, 6}, 3, m, false}, // cut to 64 bits it would be 5
		{ask{0, 10, 0, 0, 0, 1}, 0, 0, false},
		{ask{0, 10, 0, 0, 10, 1}, 0, 0, false},
		{ask{5, 0, 0, 0, 0, 1}, 0, 0, false},
		{ask{5, 0, 3, 4, 39, 1}, 3, 4, false},
		{ask{5, 1, m - 1, 5, m, 5}, m, 5, true},
		{ask{5, 1, m, 4, m, 1}, m, 5, true},
		{ask{5, 1, m, 4, m - 1, 1}, m, 4, false},
		{ask{5, m, 0, 4, m - 1, 1}, 0, 5, true},
		{ask{5, m, 0, 5, m - 1, 1}, 0, 5, false},
		{ask{5, m, 0, 5, m, 1}, 1, 1, true},
		{ask{5, 10, m, 0, m, 1}, m, 0, false}, // window 2^64 - 1 begins behind all times
	}
	for _, row := range rows {
		if index, count, ok := row.admit(); index != row.index || count != row.count || ok != row.ok {
			t.Errorf("P5.2: Admit%v is %d, %d, %v, want %d, %d, %v", row.ask, index, count, ok, row.index, row.count, row.ok)
		}
	}
}

// TestAdmitOfNothing: no units, or no windows, leave the index and the count as they were, whatever the rest.
func TestAdmitOfNothing(t *testing.T) {
	everySix(edges(), func(a ask) {
		if a.n > 0 && a.span > 0 {
			return
		}
		if index, count, ok := a.admit(); index != a.index || count != a.count || ok {
			t.Fatalf("P5.2: Admit%v is %d, %d, %v, want %d, %d, false", a, index, count, ok, a.index, a.count)
		}
	})
}

func TestAdmitAtTheEdges(t *testing.T) {
	everySix(edges(), func(a ask) { expectAdmit(t, a) })
}

func TestAdmitOfSmallNumbers(t *testing.T) {
	everySix(small(), func(a ask) { expectAdmit(t, a) })
}

func TestAdmitInTheLastWindows(t *testing.T) {
	everyLast(func(a ask) { expectAdmit(t, a) })
}

func TestAdmitOfAnyNumbers(t *testing.T) {
	someAsks(53, 100000, func(_ *rand.Rand, a ask) { expectAdmit(t, a) })
}

// TestAdmitAroundTheLimit: count and n together are one below limit, just that, and one above; and so is n alone in a later window.
func TestAdmitAroundTheLimit(t *testing.T) {
	for _, limit := range []uint64{3, 5, 1 << 32, 1 << 63, m - 1} {
		for _, n := range []uint64{1, 2, limit / 2, limit - 1} {
			for over := range uint64(3) {
				count := limit - n - 1 + over
				a := ask{limit, 10, 3, count, 35, n}
				if index, sum, ok := a.admit(); index != 3 || ok != (over <= 1) || ok && sum != count+n {
					t.Errorf("P5.2: Admit%v is %d, %d, %v, with %d units too much for limit - 1", a, index, sum, ok, over)
				}
				later := ask{limit, 10, 3, count, 55, limit - 1 + over}
				if index, sum, ok := later.admit(); ok != (over <= 1) || ok && (index != 5 || sum != later.n) || !ok && (index != 3 || sum != count) {
					t.Errorf("P5.2: Admit%v is %d, %d, %v, with %d units too much for limit - 1", later, index, sum, ok, over)
				}
			}
		}
	}
}

// TestAdmitAround64Bits: count and n together are 2^64 - 1, 2^64, and a little more.
func TestAdmitAround64Bits(t *testing.T) {
	for _, n := range []uint64{3, 10, 1 << 63, m - 1, m} {
		for over := range uint64(4) {
			for _, limit := range []uint64{0, 1, 2, 10, m - 2, m - 1, m} {
				a := ask{limit, 7, 0, m - n + over, 6, n}
				if a.admitted() != (over == 0 && limit == m) {
					t.Errorf("P5.2: Admit%v is %v, but count and n are %d above 2^64 - 1", a, a.admitted(), over)
				}
				expectAdmit(t, a)
			}
		}
	}
}

// TestAdmitAroundTheWindow: now is at the last time ahead of the window, at its first and last ones, and at the first one behind it.
func TestAdmitAroundTheWindow(t *testing.T) {
	for _, span := range []uint64{1, 2, 10, 1 << 32, 1 << 62} {
		for _, index := range []uint64{1, 2, m/span - 1} {
			begin := span * index
			a := ask{5, span, index, 4, 0, 1}
			rows := []struct {
				now, index, count uint64
				ok                bool
			}{
				{0, index, 4, false},
				{begin - 1, index, 4, false},
				{begin, index, 5, true},
				{begin + span - 1, index, 5, true},
				{begin + span, index + 1, 1, true},
				{m, m / span, 1, true},
			}
			for _, row := range rows {
				if have, count, ok := a.at(row.now).admit(); have != row.index || count != row.count || ok != row.ok {
					t.Errorf("P5.2: Admit%v is %d, %d, %v, want %d, %d, %v", a.at(row.now), have, count, ok, row.index, row.count, row.ok)
				}
			}
		}
	}
}
