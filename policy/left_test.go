package policy_test

import (
	"math/rand"
	"testing"

	"turnstile/api"
	"turnstile/gcra"
	"turnstile/window"
)

// wantLeft is what Left has to answer by the answers of layers 4 and 5.
func (a ask) wantLeft() uint64 {
	switch {
	case !wantValid(a.p):
		return 0
	case a.p.Kind == api.Flow:
		return gcra.Burst(a.p.Gap, a.p.Slack, a.v.Tat, a.now)
	}
	return window.Left(a.p.Limit, a.p.Span, a.v.Index, a.v.Count, a.now)
}

func expectLeft(t *testing.T, a ask) {
	t.Helper()
	if have, want := a.left(), a.wantLeft(); have != want {
		t.Fatalf("P6.4: Left%v is %d, want %d", a, have, want)
	}
}

// expectMost asks Admit itself: so many are admitted, one more aren't.
func expectMost(t *testing.T, a ask) {
	t.Helper()
	left := a.left()
	if left > 0 && !a.units(left).admitted() {
		t.Fatalf("P6.4: Left%v is %d, but so many aren't admitted", a, left)
	}
	if left < m && a.units(left+1).admitted() {
		t.Fatalf("P6.4: Left%v is %d, but one more is admitted", a, left)
	}
}

func TestLeftExamples(t *testing.T) {
	f, g := flow(10, 20), grid(3, 100)
	rows := []struct {
		ask
		want uint64
	}{
		{ask{f, api.Level{}, 5, 0}, 3},
		{ask{f, tat(35), 5, 0}, 0},
		{ask{f, tat(35), 14, 0}, 0},
		{ask{f, tat(35), 15, 0}, 1},
		{ask{f, tat(35), 25, 0}, 2},
		{ask{f, api.Level{Tat: 35, Index: 9, Count: 9}, 25, 0}, 2},
		{ask{f, used(9, 9), 5, 0}, 3},
		{ask{flow(1, m), api.Level{}, 0, 0}, m},
		{ask{flow(1, m), tat(m), 0, 0}, 0},
		{ask{flow(m, 0), api.Level{}, 0, 0}, 1},
		{ask{g, api.Level{}, 5, 0}, 3},
		{ask{g, used(2, 2), 250, 0}, 1},
		{ask{g, used(2, 2), 299, 0}, 1},
		{ask{g, used(2, 2), 300, 0}, 3},
		{ask{g, used(2, 2), 199, 0}, 0},
		{ask{g, used(2, 3), 250, 0}, 0},
		{ask{g, used(2, 9), 250, 0}, 0},
		{ask{g, api.Level{Tat: m, Index: 2, Count: 2}, 250, 0}, 1},
		{ask{grid(0, 1), api.Level{}, 9, 0}, 0},
		{ask{grid(m, 1), api.Level{}, 9, 0}, m},
		{ask{grid(m, m), used(0, 1), 9, 0}, m - 1},
	}
	for _, row := range rows {
		if have := row.left(); have != row.want {
			t.Errorf("P6.4: Left%v is %d, want %d", row.ask, have, row.want)
		}
		expectMost(t, row.ask)
	}
}

// TestLeftOfSmallNumbers counts upwards by the rules as they are written; Flows at the last times have few units left.
func TestLeftOfSmallNumbers(t *testing.T) {
	counted := func(a ask) {
		want := uint64(0)
		for {
			if _, ok := a.units(want + 1).plain(); !ok {
				break
			}
			want++
		}
		if have := a.left(); have != want {
			t.Fatalf("P6.4: Left%v is %d, want %d", a, have, want)
		}
	}
	smallAsks(counted)
	lastAsks(counted)
}

func TestLeftOfEdges(t *testing.T) {
	edgeAsks(func(a ask) {
		if a.n > 0 { // once for each of the others
			return
		}
		expectLeft(t, a)
		expectMost(t, a)
	})
}

func TestLeftOfAnyNumbers(t *testing.T) {
	some := map[int]int{}
	someAsks(67, 100000, func(_ *rand.Rand, a ask) {
		expectLeft(t, a)
		expectMost(t, a)
		if a.left() > 0 {
			some[a.p.Kind]++
		}
	})
	if some[api.Flow] < 1000 || some[api.Grid] < 1000 {
		t.Errorf("P6.4: %d asks of Flows and %d of Grids had units left, want 1000 and more of each", some[api.Flow], some[api.Grid])
	}
}
