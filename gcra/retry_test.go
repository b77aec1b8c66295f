package gcra_test

import (
	"math/big"
	"math/rand"
	"testing"

	"turnstile/api"
)

// wantRetry is the chapter's own account of the least time, in numbers without bound.
func (a ask) wantRetry() uint64 {
	if a.n == 0 || a.gap == 0 || !a.next().IsUint64() {
		return api.Never
	}
	spread := line(0, a.gap, new(big.Int).Sub(whole(a.n), whole(1)))
	if spread.Cmp(whole(a.slack)) > 0 {
		return api.Never
	}
	first := new(big.Int).Add(whole(a.tat), spread)
	first.Sub(first, whole(a.slack))
	if first.Cmp(whole(a.now)) < 0 {
		return a.now
	}
	return first.Uint64()
}

func wantDelay(at, now uint64) uint64 {
	if at == api.Never {
		return api.Never
	}
	return at - now
}

func expectRetry(t *testing.T, a ask) {
	t.Helper()
	if have, want := a.retry(), a.wantRetry(); have != want {
		t.Fatalf("P4.2: Retry%v is %d, want %d", a, have, want)
	}
	if have, want := a.delay(), wantDelay(a.units(1).wantRetry(), a.now); have != want {
		t.Fatalf("P4.5: Delay%v is %d, want %d", a, have, want)
	}
}

func TestRetryExamples(t *testing.T) {
	rows := []struct {
		ask
		want uint64
	}{
		{ask{10, 0, 110, 105, 1}, 110},
		{ask{10, 0, 0, 100, 1}, 100},
		{ask{10, 20, 0, 100, 4}, api.Never},
		{ask{1, 0, 0, m, 1}, api.Never},
		{ask{10, 3, m, 7, 1}, api.Never},
		{ask{10, 3, 500, 7, 1}, 497},
		{ask{10, 3, 500, 498, 1}, 498},
		{ask{10, 3, 500, 7, 0}, api.Never},
		{ask{0, 3, 500, 7, 1}, api.Never},
		{ask{0, 3, 500, 7, 0}, api.Never},
		{ask{10, 20, 130, 100, 1}, 110},
		{ask{1, m, m - 1, 0, 1}, 0},
		{ask{1, 0, m - 1, 0, 1}, m - 1}, // the last time of all
	}
	for _, row := range rows {
		if have := row.retry(); have != row.want {
			t.Errorf("P4.2: Retry%v is %d, want %d", row.ask, have, row.want)
		}
	}
}

func TestDelayExamples(t *testing.T) {
	rows := []struct {
		ask
		want uint64
	}{
		{ask{10, 0, 110, 105, 0}, 5},
		{ask{10, 5, 110, 105, 0}, 0},
		{ask{10, 20, 130, 100, 0}, 10},
		{ask{10, 20, 0, 100, 0}, 0},
		{ask{0, 5, 0, 0, 0}, api.Never},
		{ask{1, 0, 0, m, 0}, api.Never},
		{ask{1, 0, m - 1, 0, 0}, m - 1},
		{ask{2, m, m - 1, 9, 0}, api.Never},
	}
	for _, row := range rows {
		if have := row.delay(); have != row.want {
			t.Errorf("P4.5: Delay%v is %d, want %d", row.ask, have, row.want)
		}
	}
}

// firstTime goes through all times from now to the end, which is given such that none behind it is another than it.
func firstTime(a ask, end uint64) uint64 {
	for at := a.now; at < end; at++ {
		if a.at(at).allowed() {
			return at
		}
	}
	if a.at(end).allowed() {
		return end
	}
	return api.Never
}

// TestRetryOfSmallNumbers goes through the times; 9 + 9 gaps are behind every tat and every wait.
func TestRetryOfSmallNumbers(t *testing.T) {
	everyFive([]uint64{0, 1, 2, 3, 5, 6, 9}, func(a ask) {
		if have, want := a.retry(), firstTime(a, 100); have != want {
			t.Fatalf("P4.2: Retry%v is %d, want %d", a, have, want)
		}
		if have, want := a.delay(), wantDelay(firstTime(a.units(1), 100), a.now); have != want {
			t.Fatalf("P4.5: Delay%v is %d, want %d", a, have, want)
		}
	})
}

// TestRetryNearTheEnd goes through all times that are left up to 2^64 - 1.
func TestRetryNearTheEnd(t *testing.T) {
	everyFive([]uint64{0, 1, 2, 3, 5, 6, 9}, func(a ask) {
		a.tat, a.now = m-2*a.tat, m-2*a.now
		if have, want := a.retry(), firstTime(a, m); have != want {
			t.Fatalf("P4.2: Retry%v is %d, want %d", a, have, want)
		}
		if have, want := a.delay(), wantDelay(firstTime(a.units(1), m), a.now); have != want {
			t.Fatalf("P4.5: Delay%v is %d, want %d", a, have, want)
		}
	})
}

func TestRetryAtTheEdges(t *testing.T) {
	everyFive(edges(), func(a ask) { expectRetry(t, a) })
}

func TestRetryOfAnyNumbers(t *testing.T) {
	someAsks(42, 100000, func(_ *rand.Rand, a ask) { expectRetry(t, a) })
}

// between is a time from low on and below high.
func between(r *rand.Rand, low, high uint64) uint64 {
	return low + r.Uint64()>>r.Intn(64)%(high-low)
}

// expectNone asks at now, at the time ahead of end, and at others between them; end itself isn't asked.
func expectNone(t *testing.T, r *rand.Rand, a ask, end uint64) {
	t.Helper()
	if a.now == end {
		return
	}
	times := []uint64{a.now, end - 1}
	for range 5 {
		times = append(times, between(r, a.now, end))
	}
	if a.now < a.tat && a.tat < end {
		times = append(times, a.tat-1, a.tat)
	}
	for _, at := range times {
		if _, ok := a.at(at).admit(); ok {
			t.Fatalf("P4.2: Retry%v is %d, but they are admitted at %d", a, a.retry(), at)
		}
	}
}

// TestRetryIsTheLeastTime asks Admit: at the time they are admitted, ahead of it they aren't.
func TestRetryIsTheLeastTime(t *testing.T) {
	waited := 0
	someAsks(43, 50000, func(r *rand.Rand, a ask) {
		at := a.retry()
		if at == api.Never {
			if _, ok := a.at(m).admit(); ok {
				t.Fatalf("P4.2: Retry%v is Never, but they are admitted at 2^64 - 1", a)
			}
			expectNone(t, r, a, m)
			return
		}
		if _, ok := a.at(at).admit(); !ok || at < a.now {
			t.Fatalf("P4.2: Retry%v is %d, at which they aren't admitted", a, at)
		}
		if at > a.now {
			waited++
		}
		expectNone(t, r, a, at)
	})
	if waited < 100 {
		t.Errorf("P4.2: %d asks had to wait, want 100 and more", waited)
	}
}
