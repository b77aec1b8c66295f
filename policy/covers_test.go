package policy_test

import (
	"math/rand"
	"testing"

	"turnstile/api"
	"turnstile/policy"
)

// wantCovers is when a ceiling covers a level, as the chapter writes it.
func wantCovers(p api.Policy, c, v api.Level) bool {
	switch {
	case !wantValid(p):
		return false
	case p.Kind == api.Flow:
		return v.Tat <= c.Tat
	}
	below := v.Index < c.Index
	same := v.Index == c.Index
	return below || same && v.Count <= c.Count
}

func expectCovers(t *testing.T, p api.Policy, c, v api.Level) {
	t.Helper()
	if have, want := policy.Covers(p, c, v), wantCovers(p, c, v); have != want {
		t.Fatalf("P6.5: Covers(%+v, %+v, %+v) is %v, want %v", p, c, v, have, want)
	}
}

// expectMax: the answer is, in form, one of the two that covers the other.
func expectMax(t *testing.T, p api.Policy, a, b api.Level) {
	t.Helper()
	want := wantForm(p, a)
	if !wantCovers(p, a, b) {
		want = wantForm(p, b)
	}
	if have := policy.Max(p, a, b); have != want {
		t.Fatalf("P6.6: Max(%+v, %+v, %+v) is %+v, want %+v", p, a, b, have, want)
	}
}

func TestCoversExamples(t *testing.T) {
	rows := []struct {
		p    api.Policy
		c, v api.Level
		want bool
	}{
		{flow(10, 20), tat(5), tat(4), true},
		{flow(10, 20), tat(5), tat(5), true},
		{flow(10, 20), tat(5), tat(6), false},
		{flow(10, 20), tat(0), tat(0), true},
		{flow(10, 20), tat(0), tat(1), false},
		{flow(10, 20), tat(m), tat(m), true},
		{flow(10, 20), tat(m - 1), tat(m), false},
		{flow(10, 20), tat(1 << 63), tat(1<<63 - 1), true},
		{flow(10, 20), tat(1<<63 - 1), tat(1 << 63), false},
		{flow(10, 20), tat(5), api.Level{Tat: 5, Index: 9, Count: 9}, true},
		{flow(10, 20), api.Level{Tat: 5, Index: 9, Count: 9}, tat(6), false},
		{grid(3, 100), used(2, 2), used(1, 9), true},
		{grid(3, 100), used(2, 2), used(2, 1), true},
		{grid(3, 100), used(2, 2), used(2, 2), true},
		{grid(3, 100), used(2, 2), used(2, 3), false},
		{grid(3, 100), used(2, 2), used(3, 0), false},
		{grid(3, 100), used(2, 2), used(3, 2), false},
		{grid(3, 100), used(2, 0), used(1, m), true},
		{grid(3, 100), used(1, m), used(2, 0), false},
		{grid(3, 100), used(0, 0), used(0, 0), true},
		{grid(3, 100), used(m, m), used(m, m), true},
		{grid(3, 100), used(m, m-1), used(m, m), false},
		{grid(3, 100), used(m-1, m), used(m, m), false},
		{grid(3, 100), used(1<<63, 5), used(1<<63-1, 5), true},
		{grid(3, 100), used(2, 1<<63), used(2, 1<<63-1), true},
		{grid(3, 100), used(2, 1<<63-1), used(2, 1<<63), false},
		{grid(3, 100), used(2, 2), api.Level{Tat: 99, Index: 2, Count: 2}, true},
		{grid(3, 100), api.Level{Tat: 99, Index: 2, Count: 2}, used(2, 3), false},
	}
	for _, row := range rows {
		if have := policy.Covers(row.p, row.c, row.v); have != row.want {
			t.Errorf("P6.5: Covers(%+v, %+v, %+v) is %v, want %v", row.p, row.c, row.v, have, row.want)
		}
	}
}

func TestMaxExamples(t *testing.T) {
	rows := []struct {
		p          api.Policy
		a, b, want api.Level
	}{
		{flow(10, 20), tat(3), api.Level{Tat: 5, Count: 1}, tat(5)},
		{flow(10, 20), tat(3), tat(4), tat(4)},
		{flow(10, 20), tat(3), tat(3), tat(3)},
		{flow(10, 20), api.Level{Tat: 3, Index: 1}, api.Level{Tat: 3, Count: 1}, tat(3)},
		{flow(10, 20), api.Level{Tat: 3, Index: 9, Count: 9}, tat(2), tat(3)},
		{flow(10, 20), tat(m), tat(m - 1), tat(m)},
		{flow(10, 20), used(9, 9), api.Level{}, api.Level{}},
		{grid(3, 100), used(2, 0), used(1, 7), used(2, 0)},
		{grid(3, 100), used(2, 1), used(2, 2), used(2, 2)},
		{grid(3, 100), used(2, 2), used(2, 2), used(2, 2)},
		{grid(3, 100), used(2, 9), used(3, 0), used(3, 0)},
		{grid(3, 100), api.Level{Tat: 1, Index: 2, Count: 2}, api.Level{Tat: 9, Index: 2, Count: 2}, used(2, 2)},
		{grid(3, 100), api.Level{Tat: 9, Index: 1, Count: 2}, used(2, 2), used(2, 2)},
		{grid(3, 100), api.Level{Tat: 9, Index: 2, Count: 2}, used(1, 2), used(2, 2)},
		{grid(3, 100), used(m, m), used(m, m-1), used(m, m)},
		{grid(3, 100), tat(9), api.Level{}, api.Level{}},
		{api.Policy{}, tat(3), tat(5), api.Level{}},
		{flow(0, 20), tat(3), tat(5), api.Level{}},
		{grid(3, 0), used(3, 3), used(5, 5), api.Level{}},
	}
	for _, row := range rows {
		for _, have := range []api.Level{policy.Max(row.p, row.a, row.b), policy.Max(row.p, row.b, row.a)} {
			if have != row.want {
				t.Errorf("P6.6: Max(%+v, %+v, %+v), or the other way round, is %+v, want %+v", row.p, row.a, row.b, have, row.want)
			}
		}
	}
}

// expectOrder asks what both calls promise of two levels together.
func expectOrder(t *testing.T, p api.Policy, a, b api.Level) {
	t.Helper()
	expectCovers(t, p, a, b)
	expectMax(t, p, a, b)
	top := policy.Max(p, a, b)
	if !policy.Fits(p, top) || !policy.Covers(p, top, a) || !policy.Covers(p, top, b) {
		t.Fatalf("P6.6: Max(%+v, %+v, %+v) is %+v, which isn't in form or doesn't cover both", p, a, b, top)
	}
	both := policy.Covers(p, a, b) && policy.Covers(p, b, a)
	if both != (wantForm(p, a) == wantForm(p, b)) {
		t.Fatalf("P6.6: that %+v and %+v cover each other by %+v is %v", a, b, p, both)
	}
}

func TestOrderOfEveryTwoLevels(t *testing.T) {
	list := []uint64{0, 1, 2, 1<<63 - 1, 1 << 63, m - 1, m}
	for _, p := range []api.Policy{flow(10, 20), flow(1, 0), grid(3, 100), grid(0, 1), grid(m, m)} {
		everyLevel(list, func(a api.Level) {
			everyLevel(list, func(b api.Level) { expectOrder(t, p, a, b) })
		})
	}
}

// nextTo is v with one field, or none, moved by at most one; at the ends it wraps.
func nextTo(r *rand.Rand, v api.Level) api.Level {
	by := uint64(r.Intn(3)) - 1
	switch r.Intn(4) {
	case 0:
		v.Tat += by
	case 1:
		v.Index += by
	case 2:
		v.Count += by
	}
	return v
}

func TestOrderOfAnyLevels(t *testing.T) {
	r := rand.New(rand.NewSource(68))
	for range 100000 {
		p, a := anyRule(r), anyLevel(r)
		expectOrder(t, p, a, anyLevel(r))
		expectOrder(t, p, a, nextTo(r, a))
	}
}
