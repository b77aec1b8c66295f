package policy_test

import (
	"fmt"
	"math"
	"math/big"
	"math/rand"
	"testing"

	"turnstile/api"
	"turnstile/gcra"
	"turnstile/policy"
	"turnstile/window"
)

const m = 1<<64 - 1

func flow(gap, slack uint64) api.Policy   { return api.Policy{Kind: api.Flow, Gap: gap, Slack: slack} }
func grid(limit, span uint64) api.Policy  { return api.Policy{Kind: api.Grid, Limit: limit, Span: span} }
func tat(x uint64) api.Level              { return api.Level{Tat: x} }
func used(index, count uint64) api.Level  { return api.Level{Index: index, Count: count} }
func whole(x uint64) *big.Int             { return new(big.Int).SetUint64(x) }
func plus(a, b *big.Int) *big.Int         { return new(big.Int).Add(a, b) }
func times(x uint64, k *big.Int) *big.Int { return new(big.Int).Mul(whole(x), k) }

// ask is what a policy is asked.
type ask struct {
	p      api.Policy
	v      api.Level
	now, n uint64
}

func (a ask) String() string               { return fmt.Sprintf("(%+v, %+v, now %d, n %d)", a.p, a.v, a.now, a.n) }
func (a ask) at(now uint64) ask            { a.now = now; return a }
func (a ask) units(n uint64) ask           { a.n = n; return a }
func (a ask) over(v api.Level) ask         { a.v = v; return a }
func (a ask) left() uint64                 { return policy.Left(a.p, a.v, a.now) }
func (a ask) covers(c, v api.Level) bool   { return policy.Covers(a.p, c, v) }
func (a ask) max(x, y api.Level) api.Level { return policy.Max(a.p, x, y) }
func (a ask) admit() (api.Level, bool, uint64) {
	return policy.Admit(a.p, a.v, a.now, a.n)
}

// admitted asks Admit whether alone.
func (a ask) admitted() bool {
	_, ok, _ := a.admit()
	return ok
}

// wantValid is when a policy is valid, as the chapter writes it.
func wantValid(p api.Policy) bool {
	isFlow := p.Kind == 1 && p.Gap >= 1 && p.Limit == 0 && p.Span == 0
	isGrid := p.Kind == 2 && p.Span >= 1 && p.Gap == 0 && p.Slack == 0
	return isFlow || isGrid
}

// wantForm is v in form for p; of a policy that isn't valid the level of zeros.
func wantForm(p api.Policy, v api.Level) api.Level {
	switch {
	case !wantValid(p):
		return api.Level{}
	case p.Kind == api.Flow:
		return tat(v.Tat)
	}
	return used(v.Index, v.Count)
}

// want is what Admit has to answer by the answers of layers 4 and 5.
func (a ask) want() (api.Level, bool, uint64) {
	next, ok, retry := api.Level{}, false, uint64(api.Never)
	switch {
	case !wantValid(a.p):
		return next, ok, retry
	case a.p.Kind == api.Flow:
		next.Tat, ok = gcra.Admit(a.p.Gap, a.p.Slack, a.v.Tat, a.now, a.n)
		retry = gcra.Retry(a.p.Gap, a.p.Slack, a.v.Tat, a.now, a.n)
	default:
		next.Index, next.Count, ok = window.Admit(a.p.Limit, a.p.Span, a.v.Index, a.v.Count, a.now, a.n)
		retry = window.Retry(a.p.Limit, a.p.Span, a.v.Index, a.v.Count, a.now, a.n)
	}
	if ok {
		return next, true, 0
	}
	return wantForm(a.p, a.v), false, retry
}

// plain is the new level and whether the units are admitted, by the rules as they are written, in numbers without bound.
func (a ask) plain() (api.Level, bool) {
	form := wantForm(a.p, a.v)
	switch {
	case a.n == 0 || !wantValid(a.p):
		return form, false
	case a.p.Kind == api.Flow:
		return a.plainFlow(form)
	}
	return a.plainGrid(form)
}

func (a ask) plainFlow(form api.Level) (api.Level, bool) {
	base := whole(max(a.v.Tat, a.now))
	last := plus(base, times(a.p.Gap, whole(a.n-1)))
	next := plus(base, times(a.p.Gap, whole(a.n)))
	if last.Cmp(plus(whole(a.now), whole(a.p.Slack))) > 0 || !next.IsUint64() {
		return form, false
	}
	return tat(next.Uint64()), true
}

func (a ask) plainGrid(form api.Level) (api.Level, bool) {
	w := a.now / a.p.Span
	if w > a.v.Index && a.n <= a.p.Limit {
		return used(w, a.n), true
	}
	both := plus(whole(a.v.Count), whole(a.n))
	if w == a.v.Index && both.Cmp(whole(a.p.Limit)) <= 0 {
		return used(w, both.Uint64()), true
	}
	return form, false
}

// kinds: both rules', those next to them, the ends, and ones that would be both rules' if they were cut.
func kinds() []int {
	return []int{math.MinInt, math.MinInt + 1, math.MinInt + 2, -2, -1, 0, api.Flow, api.Grid, 3, 4, 256 + 1, 256 + 2,
		65536 + 1, 65536 + 2, math.MaxInt - 1, math.MaxInt}
}

// edges: the ends, the middle, and small numbers.
func edges() []uint64 { return []uint64{0, 1, 2, 10, 1 << 32, 1<<63 - 1, 1 << 63, m - 1, m} }

func everyPolicy(list []uint64, do func(api.Policy)) {
	for _, kind := range kinds() {
		for _, gap := range list {
			for _, slack := range list {
				for _, limit := range list {
					for _, span := range list {
						do(api.Policy{Kind: kind, Gap: gap, Slack: slack, Limit: limit, Span: span})
					}
				}
			}
		}
	}
}

func everyLevel(list []uint64, do func(api.Level)) {
	for _, x := range list {
		for _, index := range list {
			for _, count := range list {
				do(api.Level{Tat: x, Index: index, Count: count})
			}
		}
	}
}

// everyRule gives each valid policy with two of the numbers.
func everyRule(list []uint64, do func(api.Policy)) {
	for _, x := range list {
		for _, y := range list {
			if x > 0 {
				do(flow(x, y))
				do(grid(y, x))
			}
		}
	}
}

// everyAsk gives each valid policy asked over each level, at each time, for each number of units.
func everyAsk(rules, levels, nows, units []uint64, do func(ask)) {
	everyRule(rules, func(p api.Policy) {
		everyLevel(levels, func(v api.Level) {
			for _, now := range nows {
				for _, n := range units {
					do(ask{p, v, now, n})
				}
			}
		})
	})
}

// smallAsks and lastAsks are few enough to go through all times: up to 40, and from their own up to 2^64 - 1.
func smallAsks(do func(ask)) {
	everyAsk([]uint64{0, 1, 2, 3, 5}, []uint64{0, 1, 3, 6}, []uint64{0, 1, 2, 3, 5, 6, 9, 20}, []uint64{0, 1, 2, 3, 6}, do)
}

func lastAsks(do func(ask)) {
	smallAsks(func(a ask) {
		a.now, a.v.Tat = m-a.now, m-a.v.Tat
		if a.p.Kind == api.Grid {
			a.v.Index = m/a.p.Span - a.v.Index%4
		}
		do(a)
	})
}

func edgeAsks(do func(ask)) {
	everyAsk(edges(), []uint64{0, 1, 10, 1 << 63, m - 1, m}, edges(), []uint64{0, 1, 2, 10, 1 << 63, m}, do)
}

// anyNumber is of any length in bits, from either end.
func anyNumber(r *rand.Rand) uint64 {
	x := r.Uint64() >> r.Intn(65)
	if r.Intn(4) == 0 {
		return m - x
	}
	return x
}

func anyLevel(r *rand.Rand) api.Level {
	return api.Level{Tat: anyNumber(r), Index: anyNumber(r), Count: anyNumber(r)}
}

func anyRule(r *rand.Rand) api.Policy {
	if r.Intn(2) == 0 {
		return flow(max(anyNumber(r), 1), anyNumber(r))
	}
	return grid(anyNumber(r), max(anyNumber(r), 1))
}

// someAsks gives asks of valid policies, always the same ones; every other one at a time close to what decides.
func someAsks(seed int64, count int, do func(*rand.Rand, ask)) {
	r := rand.New(rand.NewSource(seed))
	for i := range count {
		a := ask{anyRule(r), anyLevel(r), anyNumber(r), anyNumber(r) >> r.Intn(64)}
		if i%2 == 0 && a.p.Kind == api.Flow {
			a.now = a.v.Tat - min(a.v.Tat, a.p.Slack) + uint64(r.Intn(3)) // it may wrap to 0 or 1
			a.n = 1 + a.n%3
		}
		if i%2 == 0 && a.p.Kind == api.Grid {
			a.v.Index = a.now/a.p.Span + uint64(r.Intn(3)) - 1 // it may wrap to 2^64 - 1
			a.v.Count = a.p.Limit - min(a.p.Limit, a.n) + uint64(r.Intn(3)) - 1
		}
		do(r, a)
	}
}

// TestAsksAreOfAllKinds holds the drawn asks to what the other tests need of them.
func TestAsksAreOfAllKinds(t *testing.T) {
	seen := map[string]int{}
	someAsks(1, 20000, func(_ *rand.Rand, a ask) {
		_, ok, retry := a.want()
		seen[fmt.Sprint(a.p.Kind, " admitted ", ok)]++
		if !ok {
			seen[fmt.Sprint(a.p.Kind, " waits ", retry != api.Never)]++
		}
		if a.p.Kind == api.Grid {
			seen[fmt.Sprint("window to index ", whole(a.now/a.p.Span).Cmp(whole(a.v.Index)), " admitted ", ok)]++
		}
	})
	wanted := []string{"1 admitted true", "1 admitted false", "1 waits true", "1 waits false", "2 admitted true", "2 admitted false",
		"2 waits true", "2 waits false", "window to index -1 admitted false", "window to index 0 admitted true",
		"window to index 0 admitted false", "window to index 1 admitted true", "window to index 1 admitted false"}
	for _, kind := range wanted {
		if seen[kind] < 100 {
			t.Errorf("%d asks of the kind %s, want 100 and more", seen[kind], kind)
		}
	}
}
