package policy_test

import (
	"math/rand"
	"testing"

	"turnstile/api"
	"turnstile/policy"
)

func expectAdmit(t *testing.T, a ask) {
	t.Helper()
	next, ok, retry := a.admit()
	wantNext, wantOk, wantRetry := a.want()
	if next != wantNext || ok != wantOk || retry != wantRetry {
		t.Fatalf("P6.3: Admit%v is %+v, %v, %d, want %+v, %v, %d", a, next, ok, retry, wantNext, wantOk, wantRetry)
	}
}

type admitRow struct {
	ask
	want  api.Level
	ok    bool
	retry uint64
}

func expectRows(t *testing.T, rows []admitRow) {
	t.Helper()
	for _, row := range rows {
		if next, ok, retry := row.admit(); next != row.want || ok != row.ok || retry != row.retry {
			t.Errorf("P6.3: Admit%v is %+v, %v, %d, want %+v, %v, %d", row.ask, next, ok, retry, row.want, row.ok, row.retry)
		}
	}
}

func TestAdmitOfFlows(t *testing.T) {
	f, zeros := flow(10, 20), api.Level{}
	expectRows(t, []admitRow{
		{ask{f, zeros, 5, 1}, tat(15), true, 0},
		{ask{f, zeros, 5, 3}, tat(35), true, 0},
		{ask{f, zeros, 5, 4}, zeros, false, api.Never},
		{ask{f, tat(35), 5, 1}, tat(35), false, 15},
		{ask{f, tat(35), 14, 1}, tat(35), false, 15},
		{ask{f, tat(35), 15, 1}, tat(45), true, 0},
		{ask{f, tat(35), 5, 4}, tat(35), false, api.Never},
		{ask{f, tat(35), 0, 3}, tat(35), false, 35},
		{ask{f, zeros, 0, 1}, tat(10), true, 0}, // at the time 0 a Retry is 0 either way
		{ask{f, zeros, 5, 0}, zeros, false, api.Never},
		{ask{f, tat(35), 100, 0}, tat(35), false, api.Never},
		{ask{f, zeros, 5, m}, zeros, false, api.Never},
		{ask{f, api.Level{Tat: 35, Index: 9, Count: 9}, 5, 1}, tat(35), false, 15},
		{ask{f, api.Level{Tat: 35, Index: m, Count: m}, 15, 1}, tat(45), true, 0},
		{ask{f, used(9, 9), 5, 4}, zeros, false, api.Never},
		{ask{f, used(9, 9), 5, 0}, zeros, false, api.Never},
		{ask{flow(1, 0), zeros, 0, 1}, tat(1), true, 0},
		{ask{flow(1, 0), zeros, 0, 2}, zeros, false, api.Never},
		{ask{flow(1, m), zeros, 0, m}, tat(m), true, 0},
		{ask{flow(1, 0), tat(m - 1), 0, 1}, tat(m - 1), false, m - 1}, // the last time at which a unit is admitted
		{ask{flow(1, 0), tat(m - 1), m - 1, 1}, tat(m), true, 0},
		{ask{flow(1, 0), tat(m), m, 1}, tat(m), false, api.Never},
		{ask{flow(1, 0), zeros, m, 1}, zeros, false, api.Never},
		{ask{flow(m, 0), zeros, 0, 1}, tat(m), true, 0},
		{ask{flow(m, m), zeros, 0, 2}, zeros, false, api.Never},
	})
}

func TestAdmitOfGrids(t *testing.T) {
	g, zeros := grid(3, 100), api.Level{}
	expectRows(t, []admitRow{
		{ask{g, zeros, 250, 2}, used(2, 2), true, 0},
		{ask{g, used(2, 2), 250, 2}, used(2, 2), false, 300},
		{ask{g, used(2, 2), 250, 1}, used(2, 3), true, 0},
		{ask{g, used(2, 3), 299, 1}, used(2, 3), false, 300},
		{ask{g, used(2, 3), 300, 3}, used(3, 3), true, 0},
		{ask{g, used(2, 2), 199, 1}, used(2, 2), false, 200},
		{ask{g, used(2, 2), 199, 2}, used(2, 2), false, 300},
		{ask{g, zeros, 0, 4}, zeros, false, api.Never},
		{ask{g, used(2, 2), 300, 4}, used(2, 2), false, api.Never},
		{ask{g, zeros, 0, 3}, used(0, 3), true, 0},
		{ask{g, zeros, 250, 0}, zeros, false, api.Never},
		{ask{g, used(2, 2), 300, 0}, used(2, 2), false, api.Never},
		{ask{g, used(2, 9), 250, 1}, used(2, 9), false, 300}, // count is above limit
		{ask{g, api.Level{Tat: 8, Index: 2, Count: 2}, 250, 2}, used(2, 2), false, 300},
		{ask{g, api.Level{Tat: m, Index: 2, Count: 2}, 299, 1}, used(2, 3), true, 0},
		{ask{g, tat(9), 0, 4}, zeros, false, api.Never},
		{ask{g, tat(9), 0, 0}, zeros, false, api.Never},
		{ask{g, tat(m), 250, 2}, used(2, 2), true, 0},
		{ask{grid(0, 1), zeros, 0, 1}, zeros, false, api.Never},
		{ask{grid(0, 1), zeros, 9, 1}, zeros, false, api.Never},
		{ask{grid(1, 1), zeros, 0, 1}, used(0, 1), true, 0},
		{ask{grid(1, 1), used(m-1, 1), m - 1, 1}, used(m-1, 1), false, m}, // the last time of all, which is the number Never
		{ask{grid(1, 1), used(m-1, 1), m, 1}, used(m, 1), true, 0},
		{ask{grid(1, 1), used(m, 1), m, 1}, used(m, 1), false, api.Never},
		{ask{grid(1, 1), used(m-2, 1), 0, 1}, used(m-2, 1), false, m - 1},
		{ask{grid(m, m), zeros, 0, m}, used(0, m), true, 0},
		{ask{grid(m, m), used(0, m), 0, m}, used(0, m), false, m},
		{ask{grid(m, m), used(0, m), m, m}, used(1, m), true, 0},
	})
}

func TestAdmitOfEdges(t *testing.T) {
	edgeAsks(func(a ask) { expectAdmit(t, a) })
}

func TestAdmitOfAnyNumbers(t *testing.T) {
	someAsks(62, 200000, func(_ *rand.Rand, a ask) { expectAdmit(t, a) })
}

// expectPlain asks by the rules as they are written, and finds the time by going through all times from now to the end.
func expectPlain(t *testing.T, a ask, end uint64) {
	t.Helper()
	next, ok, retry := a.admit()
	wantNext, wantOk := a.plain()
	wantRetry := uint64(0)
	if !wantOk {
		wantRetry = firstTime(a, end)
	}
	if next != wantNext || ok != wantOk || retry != wantRetry {
		t.Fatalf("P6.3: Admit%v is %+v, %v, %d, want %+v, %v, %d", a, next, ok, retry, wantNext, wantOk, wantRetry)
	}
}

func firstTime(a ask, end uint64) uint64 {
	for at := a.now; at < end; at++ {
		if _, ok := a.at(at).plain(); ok {
			return at
		}
	}
	if _, ok := a.at(end).plain(); ok {
		return end
	}
	return api.Never
}

// TestAdmitOfSmallNumbers: 40 is behind window 7 of span 5, and behind every gap.
func TestAdmitOfSmallNumbers(t *testing.T) {
	smallAsks(func(a ask) { expectPlain(t, a, 40) })
}

func TestAdmitAtTheLastTimes(t *testing.T) {
	lastAsks(func(a ask) { expectPlain(t, a, m) })
}

// TestRetryIsTheLeastTime asks Admit itself: at the time they are admitted, at the one ahead of it they aren't.
func TestRetryIsTheLeastTime(t *testing.T) {
	waited := map[int]int{}
	someAsks(63, 100000, func(_ *rand.Rand, a ask) {
		_, ok, at := a.admit()
		if ok || at == api.Never {
			return
		}
		waited[a.p.Kind]++
		if at <= a.now || !a.at(at).admitted() || a.at(at-1).admitted() {
			t.Fatalf("P6.3: Admit%v tells the time %d; admitted at it %v, ahead of it %v", a, at, a.at(at).admitted(), a.at(at-1).admitted())
		}
	})
	if waited[api.Flow] < 100 || waited[api.Grid] < 100 {
		t.Errorf("P6.3: %d asks of Flows and %d of Grids waited, want 100 and more of each", waited[api.Flow], waited[api.Grid])
	}
}

// TestUnusedFields: whatever stands in what the rule doesn't use, each call answers as if it were 0.
func TestUnusedFields(t *testing.T) {
	someAsks(64, 50000, func(r *rand.Rand, a ask) {
		form, other := wantForm(a.p, a.v), anyLevel(r)
		raw := a.v
		next, ok, retry := a.admit()
		formNext, formOk, formRetry := a.over(form).admit()
		if next != formNext || ok != formOk || retry != formRetry {
			t.Fatalf("P6.3: Admit%v is %+v, %v, %d, in form %+v, %v, %d", a, next, ok, retry, formNext, formOk, formRetry)
		}
		if !policy.Fits(a.p, next) {
			t.Fatalf("P6.3: Admit%v is %+v, which isn't in form", a, next)
		}
		if have, want := a.left(), a.over(form).left(); have != want {
			t.Fatalf("P6.4: Left%v is %d, in form %d", a, have, want)
		}
		if !a.covers(raw, form) || !a.covers(form, raw) {
			t.Fatalf("P6.5: %+v and %+v don't cover each other by %+v", raw, form, a.p)
		}
		if a.covers(raw, other) != a.covers(form, other) || a.covers(other, raw) != a.covers(other, form) {
			t.Fatalf("P6.5: with %+v, %+v and %+v are covered unlike by %+v", other, raw, form, a.p)
		}
		if a.max(raw, form) != form || a.max(form, raw) != form || a.max(raw, raw) != form {
			t.Fatalf("P6.6: Max(%+v, %+v, %+v) isn't in form", a.p, raw, form)
		}
		if a.max(raw, other) != a.max(form, other) || a.max(other, raw) != a.max(other, form) {
			t.Fatalf("P6.6: with %+v, %+v and %+v have unlike Max by %+v", other, raw, form, a.p)
		}
	})
}

// expectRising: what is admitted leaves a level that covers the old one, and isn't covered by it.
func expectRising(t *testing.T, a ask) bool {
	t.Helper()
	next, ok, _ := a.admit()
	if !ok {
		return false
	}
	if !a.covers(next, a.v) || a.covers(a.v, next) {
		t.Fatalf("P6.7: Admit%v is %+v, which covers the old level %v, and is covered by it %v", a, next, a.covers(next, a.v), a.covers(a.v, next))
	}
	if a.max(next, a.v) != next || a.max(a.v, next) != next {
		t.Fatalf("P6.7: Admit%v is %+v, which isn't the higher level", a, next)
	}
	return true
}

func TestAdmittedLevelsRise(t *testing.T) {
	admitted := map[int]int{}
	count := func(a ask) {
		if expectRising(t, a) {
			admitted[a.p.Kind]++
		}
	}
	smallAsks(count)
	lastAsks(count)
	edgeAsks(count)
	someAsks(65, 100000, func(_ *rand.Rand, a ask) { count(a) })
	if admitted[api.Flow] < 10000 || admitted[api.Grid] < 10000 {
		t.Errorf("P6.7: %d asks of Flows and %d of Grids were admitted, want 10000 and more of each", admitted[api.Flow], admitted[api.Grid])
	}
}

// TestLevelsRiseInRuns goes on from level to level: each new one covers all before it, and none of them covers it.
func TestLevelsRiseInRuns(t *testing.T) {
	r := rand.New(rand.NewSource(66))
	for _, p := range []api.Policy{flow(10, 20), flow(1, 0), flow(3, 100), grid(3, 10), grid(1, 1), grid(50, 7)} {
		var before []api.Level
		a := ask{p: p}
		for now := range uint64(300) {
			next, ok, _ := a.at(now - min(now, uint64(r.Intn(20)))).units(uint64(r.Intn(3))).admit()
			if !ok {
				continue
			}
			before = append(before, a.v)
			a = a.over(next)
			for _, v := range before {
				if !a.covers(next, v) || a.covers(v, next) {
					t.Fatalf("P6.7: by %+v %+v comes behind %+v, and isn't above it", p, next, v)
				}
			}
		}
		if len(before) < 9 {
			t.Errorf("P6.7: by %+v %d asks were admitted, want 9 and more", p, len(before))
		}
	}
}
