package gcra_test

import (
	"math/big"
	"math/rand"
	"testing"
)

// expectLess asks over a lesser tat: what was admitted is, and leaves a tat no greater.
func expectLess(t *testing.T, a ask, less uint64) {
	t.Helper()
	over, ok := a.admit()
	under, lessOk := a.over(less).admit()
	if ok && (!lessOk || under > over) {
		t.Fatalf("P4.4: Admit%v is %d, true; over the tat %d it is %d, %v", a, over, less, under, lessOk)
	}
}

// expectLater asks at a later time: what was admitted is, as long as its new tat fits.
func expectLater(t *testing.T, a ask, later uint64) {
	t.Helper()
	_, ok := a.admit()
	behind := a.at(later)
	if _, laterOk := behind.admit(); ok && laterOk != behind.next().IsUint64() {
		t.Fatalf("P4.4: Admit%v is true; at %d it is %v", a, later, laterOk)
	}
}

// lastFitting is the last time at which the new tat of what is admitted still fits.
func lastFitting(a ask) uint64 {
	return new(big.Int).Sub(whole(m), line(0, a.gap, whole(a.n))).Uint64()
}

func expectMonotone(t *testing.T, r *rand.Rand, a ask) {
	t.Helper()
	less := []uint64{0, a.tat - min(a.tat, 1), min(a.tat, a.now), a.tat - a.tat>>r.Intn(65)}
	for _, tat := range less {
		expectLess(t, a, tat)
	}
	end := lastFitting(a)
	later := []uint64{max(a.now, a.tat), end, end + 1, m, a.now + (m-a.now)>>r.Intn(65)}
	for _, now := range later {
		expectLater(t, a, now)
	}
}

func TestLessAndLaterOfAnyNumbers(t *testing.T) {
	admitted := 0
	someAsks(46, 100000, func(r *rand.Rand, a ask) {
		if !a.allowed() {
			return
		}
		admitted++
		expectMonotone(t, r, a)
	})
	if admitted < 1000 {
		t.Errorf("P4.4: %d were admitted, want 1000 and more", admitted)
	}
}

func TestLessAndLaterAtTheEdges(t *testing.T) {
	everyFive(edges(), func(a ask) {
		if !a.allowed() {
			return
		}
		for _, x := range edges() {
			if x <= a.tat {
				expectLess(t, a, x)
			}
			if x >= a.now {
				expectLater(t, a, x)
			}
		}
	})
}

func TestLessAndLaterOfSmallNumbers(t *testing.T) {
	everyFive([]uint64{0, 1, 2, 3, 5, 6, 9}, func(a ask) {
		for less := range a.tat {
			expectLess(t, a, less)
		}
		for later := a.now; later < a.now+20; later++ {
			expectLater(t, a, later)
		}
		end := a
		end.tat, end.now = m-2*a.tat, m-2*a.now
		for later := end.now; later < m; later++ {
			expectLater(t, end, later)
		}
		expectLater(t, end, m)
	})
}
