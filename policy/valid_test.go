package policy_test

import (
	"math"
	"math/rand"
	"testing"

	"turnstile/api"
	"turnstile/policy"
)

func TestValidExamples(t *testing.T) {
	valid := []api.Policy{
		flow(10, 20),
		flow(1, 0),
		flow(1, m),
		flow(m, m),
		grid(3, 100),
		grid(0, 1),
		grid(m, 1),
		grid(0, m),
		grid(m, m),
	}
	for _, p := range valid {
		if !policy.Valid(p) {
			t.Errorf("P6.1: Valid(%+v) is false", p)
		}
	}
	for _, p := range notValid() {
		if policy.Valid(p) {
			t.Errorf("P6.1: Valid(%+v) is true", p)
		}
	}
}

// notValid are policies in which one thing is amiss, or several.
func notValid() []api.Policy {
	list := []api.Policy{
		{},
		flow(0, 0),
		flow(0, 20),
		{Kind: api.Flow, Gap: 10, Limit: 1},
		{Kind: api.Flow, Gap: 10, Limit: m},
		{Kind: api.Flow, Gap: 10, Span: 1},
		{Kind: api.Flow, Gap: 10, Span: m},
		{Kind: api.Flow, Gap: 10, Slack: 20, Limit: 3, Span: 100},
		{Kind: api.Flow, Limit: 3, Span: 100},
		grid(0, 0),
		grid(3, 0),
		{Kind: api.Grid, Span: 100, Gap: 1},
		{Kind: api.Grid, Span: 100, Gap: m},
		{Kind: api.Grid, Span: 100, Slack: 1},
		{Kind: api.Grid, Span: 100, Slack: m},
		{Kind: api.Grid, Gap: 10, Slack: 20, Limit: 3, Span: 100},
		{Kind: api.Grid, Gap: 10, Slack: 20},
	}
	for _, kind := range kinds() {
		if kind != api.Flow && kind != api.Grid {
			list = append(list, api.Policy{Kind: kind, Gap: 10, Slack: 20}, api.Policy{Kind: kind, Limit: 3, Span: 100},
				api.Policy{Kind: kind}, api.Policy{Kind: kind, Gap: 1, Slack: 1, Limit: 1, Span: 1})
		}
	}
	return list
}

func TestValidOfEveryPolicy(t *testing.T) {
	count := 0
	everyPolicy([]uint64{0, 1, 2, 1 << 32, 1 << 63, m}, func(p api.Policy) {
		if have, want := policy.Valid(p), wantValid(p); have != want {
			t.Fatalf("P6.1: Valid(%+v) is %v, want %v", p, have, want)
		}
		if wantValid(p) {
			count++
		}
	})
	if count != 2*5*6 {
		t.Errorf("P6.1: %d policies were valid, want 60", count)
	}
}

func TestValidOfAnyPolicy(t *testing.T) {
	r := rand.New(rand.NewSource(61))
	for range 100000 {
		p := anyRule(r)
		switch r.Intn(6) { // one field is made another one, in one case of six none
		case 0:
			p.Kind = r.Intn(5) - 1
		case 1:
			p.Gap = anyNumber(r)
		case 2:
			p.Slack = anyNumber(r)
		case 3:
			p.Limit = anyNumber(r)
		case 4:
			p.Span = anyNumber(r)
		}
		if have, want := policy.Valid(p), wantValid(p); have != want {
			t.Fatalf("P6.1: Valid(%+v) is %v, want %v", p, have, want)
		}
	}
}

func TestFitsExamples(t *testing.T) {
	rows := []struct {
		p    api.Policy
		v    api.Level
		want bool
	}{
		{flow(10, 20), api.Level{}, true},
		{flow(10, 20), tat(7), true},
		{flow(10, 20), tat(m), true},
		{flow(10, 20), used(1, 0), false},
		{flow(10, 20), used(0, 1), false},
		{flow(10, 20), api.Level{Tat: 7, Index: 1}, false},
		{flow(10, 20), api.Level{Tat: 7, Count: m}, false},
		{grid(3, 100), api.Level{}, true},
		{grid(3, 100), used(2, 2), true},
		{grid(3, 100), used(m, m), true}, // a count above the limit, too
		{grid(3, 100), used(0, 4), true},
		{grid(3, 100), tat(1), false},
		{grid(3, 100), tat(7), false},
		{grid(3, 100), api.Level{Tat: m, Index: 2, Count: 2}, false},
		{flow(0, 20), api.Level{}, false},
		{flow(0, 20), tat(7), false},
		{grid(3, 0), api.Level{}, false},
		{grid(3, 0), used(2, 2), false},
		{api.Policy{}, api.Level{}, false},
		{api.Policy{Kind: 3, Gap: 1}, api.Level{}, false},
		{api.Policy{Kind: math.MinInt, Gap: 1}, tat(7), false},
		{api.Policy{Kind: math.MaxInt, Span: 1}, used(2, 2), false},
	}
	for _, row := range rows {
		if have := policy.Fits(row.p, row.v); have != row.want {
			t.Errorf("P6.2: Fits(%+v, %+v) is %v, want %v", row.p, row.v, have, row.want)
		}
	}
}

func TestFitsOfEveryLevel(t *testing.T) {
	everyPolicy([]uint64{0, 1, m}, func(p api.Policy) {
		everyLevel([]uint64{0, 1, 1 << 32, 1 << 63, m}, func(v api.Level) {
			want := wantValid(p) && v == wantForm(p, v)
			if have := policy.Fits(p, v); have != want {
				t.Fatalf("P6.2: Fits(%+v, %+v) is %v, want %v", p, v, have, want)
			}
		})
	})
}

// TestNotValid: each call with a policy that isn't valid.
func TestNotValid(t *testing.T) {
	levels := []api.Level{{}, tat(1), tat(m), used(1, 1), used(m, m), {Tat: 5, Index: 5, Count: 5}, {Tat: m, Index: m, Count: m}}
	for _, p := range notValid() {
		for _, v := range levels {
			for _, now := range edges() {
				expectNothing(t, ask{p, v, now, 0})
				expectNothing(t, ask{p, v, now, 1})
				expectNothing(t, ask{p, v, now, m})
			}
			for _, w := range levels {
				if policy.Covers(p, v, w) {
					t.Errorf("P6.5: Covers(%+v, %+v, %+v) is true", p, v, w)
				}
				if have := policy.Max(p, v, w); have != (api.Level{}) {
					t.Errorf("P6.6: Max(%+v, %+v, %+v) is %+v, want zeros", p, v, w, have)
				}
			}
			if policy.Fits(p, v) {
				t.Errorf("P6.2: Fits(%+v, %+v) is true", p, v)
			}
		}
	}
}

func expectNothing(t *testing.T, a ask) {
	t.Helper()
	if next, ok, retry := a.admit(); next != (api.Level{}) || ok || retry != api.Never {
		t.Errorf("P6.3: Admit%v is %+v, %v, %d, want zeros, false, Never", a, next, ok, retry)
	}
	if left := a.left(); left != 0 {
		t.Errorf("P6.4: Left%v is %d, want 0", a, left)
	}
}

// TestEveryCallOfEveryPolicy: whatever the policy, the calls end, don't panic, and answer as they have to.
func TestEveryCallOfEveryPolicy(t *testing.T) {
	levels := []api.Level{{}, tat(7), used(2, 2), {Tat: m, Index: m, Count: m}}
	everyPolicy([]uint64{0, 1, 10, m}, func(p api.Policy) {
		for i, v := range levels {
			expectAdmit(t, ask{p, v, 7, 1})
			expectAdmit(t, ask{p, v, m, m})
			expectLeft(t, ask{p, v, 7, 0})
			expectCovers(t, p, v, levels[len(levels)-1-i])
			expectMax(t, p, v, levels[len(levels)-1-i])
		}
	})
}
