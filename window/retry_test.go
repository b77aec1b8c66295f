package window_test

import (
	"math/big"
	"math/rand"
	"testing"

	"turnstile/api"
	"turnstile/window"
)

// begins are the exact starts of window index and of the one behind it: only at these, as time goes on, what is admitted can change.
func (a ask) begins() []*big.Int {
	index := whole(a.index)
	return []*big.Int{times(whole(a.span), index), times(whole(a.span), plus(index, whole(1)))}
}

// wantRetry asks the rule now, and then at each time from now on at which its answer can change.
func (a ask) wantRetry() uint64 {
	if a.allowed() {
		return a.now
	}
	for _, begin := range a.begins() {
		if begin.Cmp(whole(a.now)) > 0 && begin.IsUint64() && a.at(begin.Uint64()).allowed() {
			return begin.Uint64()
		}
	}
	return api.Never
}

func expectRetry(t *testing.T, a ask) {
	t.Helper()
	if have, want := a.retry(), a.wantRetry(); have != want {
		t.Fatalf("P5.3: Retry%v is %d, want %d", a, have, want)
	}
}

func TestRetryExamples(t *testing.T) {
	rows := []struct {
		ask
		want uint64
	}{
		{ask{5, 10, 3, 4, 35, 1}, 35},
		{ask{5, 10, 3, 4, 35, 2}, 40},
		{ask{5, 10, 3, 4, 39, 2}, 40},
		{ask{5, 10, 3, 4, 40, 2}, 40},
		{ask{5, 10, 3, 4, 77, 5}, 77},
		{ask{5, 10, 3, 4, 35, 5}, 40},
		{ask{5, 10, 3, 4, 35, 6}, api.Never},
		{ask{5, 10, 3, 4, 77, 6}, api.Never},
		{ask{5, 10, 3, 4, 35, 0}, api.Never},
		{ask{5, 10, 3, 4, 77, 0}, api.Never},
		{ask{5, 10, 3, 4, 12, 1}, 30}, // window 3 has room for one
		{ask{5, 10, 3, 4, 12, 2}, 40},
		{ask{5, 10, 3, 4, 29, 1}, 30},
		{ask{5, 10, 3, 9, 35, 1}, 40}, // count is above limit
		{ask{5, 10, 3, 9, 12, 1}, 40},
		{ask{0, 10, 0, 0, 0, 1}, api.Never},
		{ask{0, 10, 3, 4, 77, 1}, api.Never},
		{ask{5, 0, 0, 0, 0, 1}, api.Never},
		{ask{5, 0, 3, 0, 12, 1}, api.Never},
		{ask{5, 1 << 63, 1, 5, 1 << 63, 1}, api.Never}, // there is no window 2
		{ask{5, 1 << 63, 1, 4, 7, 1}, 1 << 63},
		{ask{5, 1 << 63, 0, 5, 7, 1}, 1 << 63},
		{ask{5, 10, m, 0, 0, 1}, api.Never}, // window 2^64 - 1 begins behind all times
		{ask{5, 10, m, 5, m, 1}, api.Never},
		{ask{5, 10, 1844674407370955160, 5, 0, 1}, m - 5}, // the last window, of which six times are left
		{ask{5, 10, 1844674407370955161, 4, 0, 1}, m - 5},
		{ask{5, 10, 1844674407370955161, 4, m, 1}, m},
		{ask{5, 10, 1844674407370955161, 5, m - 5, 1}, api.Never},
		{ask{5, 10, 1844674407370955162, 0, 0, 1}, api.Never},
		{ask{5, 1, m - 1, 5, m - 1, 1}, m},
		{ask{5, 1, m, 5, m, 1}, api.Never},
		{ask{5, 1, m, 4, m, 1}, m},
		{ask{5, 1, m, 4, 7, 1}, m},
		{ask{5, 1, m - 2, 5, 7, 1}, m - 1},
		{ask{5, m, 0, 5, 7, 1}, m},
		{ask{5, m, 1, 0, 7, 1}, m},
		{ask{5, m, 2, 0, 7, 1}, api.Never},
		{ask{m, 10, 3, m, 35, m}, 40},
		{ask{m, 10, 3, 1, 35, m}, 40}, // count and n are 2^64
		{ask{m, 10, 3, 0, 35, m}, 35},
		{ask{m - 1, 10, 3, 0, 35, m}, api.Never},
	}
	for _, row := range rows {
		if have := row.retry(); have != row.want {
			t.Errorf("P5.3: Retry%v is %d, want %d", row.ask, have, row.want)
		}
	}
}

// firstTime goes through all times from now to the end, which is given such that none behind it is another than it.
func firstTime(a ask, end uint64) uint64 {
	for at := a.now; at < end; at++ {
		if a.at(at).allowed() {
			return at
		}
	}
	if a.at(end).allowed() {
		return end
	}
	return api.Never
}

// TestRetryOfSmallNumbers goes through the times; 100 is behind window 10 of span 9.
func TestRetryOfSmallNumbers(t *testing.T) {
	everySix(small(), func(a ask) {
		if have, want := a.retry(), firstTime(a, 100); have != want {
			t.Fatalf("P5.3: Retry%v is %d, want %d", a, have, want)
		}
	})
}

// TestRetryInTheLastWindows goes through all times that are left up to 2^64 - 1.
func TestRetryInTheLastWindows(t *testing.T) {
	waited := 0
	everyLast(func(a ask) {
		want := firstTime(a, m)
		if have := a.retry(); have != want {
			t.Fatalf("P5.3: Retry%v is %d, want %d", a, have, want)
		}
		if want > a.now && want < api.Never {
			waited++
		}
	})
	if waited < 100 {
		t.Errorf("P5.3: %d asks had to wait, want 100 and more", waited)
	}
}

func TestRetryAtTheEdges(t *testing.T) {
	everySix(edges(), func(a ask) { expectRetry(t, a) })
}

func TestRetryOfAnyNumbers(t *testing.T) {
	someAsks(54, 100000, func(_ *rand.Rand, a ask) { expectRetry(t, a) })
}

// between is a time from low on and below high.
func between(r *rand.Rand, low, high uint64) uint64 {
	return low + r.Uint64()>>r.Intn(64)%(high-low)
}

// expectNone asks at now, at the time ahead of end, around the windows' starts, and at others between them; end itself isn't asked.
func expectNone(t *testing.T, r *rand.Rand, a ask, end uint64) {
	t.Helper()
	if a.now == end {
		return
	}
	asked := []uint64{a.now, end - 1}
	for _, index := range []uint64{a.index, a.index + 1, window.Index(a.span, a.now) + 1} {
		begin := window.Start(a.span, index)
		asked = append(asked, begin-1, begin, begin+1)
	}
	for range 5 {
		asked = append(asked, between(r, a.now, end))
	}
	for _, at := range asked {
		if at >= a.now && at < end && a.at(at).admitted() {
			t.Fatalf("P5.3: Retry%v is %d, but they are admitted at %d", a, a.retry(), at)
		}
	}
}

// TestRetryIsTheLeastTime asks Admit: at the time they are admitted, ahead of it they aren't.
func TestRetryIsTheLeastTime(t *testing.T) {
	waited := map[uint64]int{}
	someAsks(55, 100000, func(r *rand.Rand, a ask) {
		at := a.retry()
		if at < a.now {
			t.Fatalf("P5.3: Retry%v is %d, which is ahead of now", a, at)
		}
		if at != api.Never && !a.at(at).admitted() {
			t.Fatalf("P5.3: Retry%v is %d, at which they aren't admitted", a, at)
		}
		if a.now < at && at < api.Never {
			waited[window.Index(a.span, at)-a.index]++
		}
		expectNone(t, r, a, at) // Never is 2^64 - 1, at which they may be admitted or not
	})
	if waited[0] < 100 || waited[1] < 100 {
		t.Errorf("P5.3: %d asks waited for window index, %d for the one behind it, want 100 and more of each", waited[0], waited[1])
	}
}
