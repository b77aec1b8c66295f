package window_test

import (
	"math/big"
	"math/rand"
	"testing"

	"turnstile/api"
	"turnstile/window"
)

func TestIndexExamples(t *testing.T) {
	rows := []struct{ span, now, want uint64 }{
		{10, 39, 3},
		{10, 40, 4},
		{10, 29, 2},
		{10, 0, 0},
		{10, 9, 0},
		{10, 10, 1},
		{10, m, 1844674407370955161},
		{1, 0, 0},
		{1, m, m},
		{2, m, 1<<63 - 1},
		{1 << 63, 1<<63 - 1, 0},
		{1 << 63, 1 << 63, 1},
		{1 << 63, m, 1},
		{m, 0, 0},
		{m, m - 1, 0},
		{m, m, 1},
		{m - 1, m, 1},
		{0, 7, 0},
		{0, 0, 0},
		{0, m, 0},
	}
	for _, row := range rows {
		if have := window.Index(row.span, row.now); have != row.want {
			t.Errorf("P5.1: Index(%d, %d) is %d, want %d", row.span, row.now, have, row.want)
		}
	}
}

func TestStartExamples(t *testing.T) {
	rows := []struct{ span, index, want uint64 }{
		{10, 3, 30},
		{10, 0, 0},
		{1, m, m},
		{1, m - 1, m - 1},
		{m, 1, m},
		{m, 0, 0},
		{m, 2, api.Never},
		{1 << 63, 1, 1 << 63},
		{1 << 63, 2, api.Never}, // just 2^64
		{1 << 63, 3, api.Never},
		{1 << 32, 1<<32 - 1, m - 1<<32 + 1},
		{1 << 32, 1 << 32, api.Never}, // just 2^64
		{1 << 32, 1<<32 + 1, api.Never},
		{2, 1<<63 - 1, m - 1},
		{2, 1 << 63, api.Never}, // just 2^64
		{3, 6148914691236517204, m - 3},
		{3, 6148914691236517205, m},
		{3, 6148914691236517206, api.Never}, // 2^64 + 2
		{10, 1844674407370955161, m - 5},
		{10, 1844674407370955162, api.Never}, // 2^64 + 4
		{10, m, api.Never},
		{m, m, api.Never},
		{0, 5, 0},
		{0, 0, 0},
		{0, m, 0},
	}
	for _, row := range rows {
		if have := window.Start(row.span, row.index); have != row.want {
			t.Errorf("P5.1: Start(%d, %d) is %d, want %d", row.span, row.index, have, row.want)
		}
	}
}

func expectIndex(t *testing.T, span, now uint64) {
	t.Helper()
	want := uint64(0)
	if span > 0 {
		want = new(big.Int).Quo(whole(now), whole(span)).Uint64()
	}
	if have := window.Index(span, now); have != want {
		t.Fatalf("P5.1: Index(%d, %d) is %d, want %d", span, now, have, want)
	}
}

func expectStart(t *testing.T, span, index uint64) {
	t.Helper()
	want := uint64(api.Never)
	if begin := times(whole(span), whole(index)); begin.IsUint64() {
		want = begin.Uint64()
	}
	if have := window.Start(span, index); have != want {
		t.Fatalf("P5.1: Start(%d, %d) is %d, want %d", span, index, have, want)
	}
}

// TestIndexAndStartAroundTheEnds takes for each span the windows next to the last one, and the times next to their starts.
func TestIndexAndStartAroundTheEnds(t *testing.T) {
	r := rand.New(rand.NewSource(51))
	spans := append(edges(), 3, 5, 17, 641, 6700417, 6148914691236517205)
	for range 20000 {
		spans = append(spans, anyNumber(r))
	}
	for _, span := range spans {
		last := m / max(span, 1)
		for _, index := range []uint64{0, 1, last - 1, last, last + 1, last + 2, anyNumber(r)} {
			expectStart(t, span, index)
			begin := span * index // where it wraps it is just some other time
			for _, now := range []uint64{begin - 1, begin, begin + 1, begin + span - 1, begin + span} {
				expectIndex(t, span, now)
			}
		}
		expectIndex(t, span, 0)
		expectIndex(t, span, m)
	}
}

// TestIndexAndStartTogether: a window begins at its start, and the time ahead of that lies in the window ahead of it.
func TestIndexAndStartTogether(t *testing.T) {
	r := rand.New(rand.NewSource(52))
	for range 50000 {
		span, now := max(anyNumber(r), 1), anyNumber(r)
		index := window.Index(span, now)
		begin := window.Start(span, index)
		if begin > now || now-begin >= span {
			t.Fatalf("P5.1: Index(%d, %d) is %d, but that one begins at %d", span, now, index, begin)
		}
		if at := window.Index(span, begin); at != index {
			t.Fatalf("P5.1: window %d of span %d begins at %d, which lies in window %d", index, span, begin, at)
		}
		if index > 0 && window.Index(span, begin-1) != index-1 {
			t.Fatalf("P5.1: %d is ahead of window %d of span %d, but lies in window %d", begin-1, index, span, window.Index(span, begin-1))
		}
	}
}
