package state_test

import (
	"fmt"
	"math/rand"
	"slices"
	"strings"
	"testing"

	"turnstile/api"
	"turnstile/state"
)

// expectIs holds Valid against what is written down, and against the plain reckoning.
func expectIs(t *testing.T, what string, s api.State, want bool) {
	t.Helper()
	if have := state.Valid(s); have != want {
		t.Errorf("P13.1: %s: Valid(%s) is %v, want %v", what, tell(s), have, want)
	}
	expectValid(t, what, s)
}

func TestStatesThatAreValid(t *testing.T) {
	for _, s := range append(smallStates(), fullStates()...) {
		expectIs(t, "a sample", s, true)
	}
}

func TestStatesThatAreNot(t *testing.T) {
	for _, s := range wrongStates() {
		expectIs(t, "a sample with a fault", s, false)
	}
}

func TestNumbersOfStates(t *testing.T) {
	for _, keys := range [][]api.Entry{nil, abc().Keys} {
		for _, floor := range []uint64{0, 1, last, 1 << 63, m - 1, m} {
			for _, lsn := range []uint64{0, 1, 2, last - 1, last} {
				expectIs(t, "an Lsn of at most MaxLsn", stateOf(lsn, floor, keys...), true)
			}
			for _, lsn := range []uint64{last + 1, last + 2, 1 << 63, 1<<63 + 1, m - 1, m} {
				expectIs(t, "an Lsn above MaxLsn", stateOf(lsn, floor, keys...), false)
			}
		}
	}
}

func TestHowManyKeys(t *testing.T) {
	for _, count := range []int{0, 1, 2, 4094, 4095, 4096} {
		expectIs(t, "at most MaxKeys keys", stateOf(1, 1, manyKeys(count)...), true)
	}
	for _, count := range []int{4097, 4098, 8192, 65536, 65537, 65536 + 4096} {
		expectIs(t, "more than MaxKeys keys", stateOf(1, 1, manyKeys(count)...), false)
	}
}

// TestTheOrderOfKeys goes through all rows of two and of three of the keys.
func TestTheOrderOfKeys(t *testing.T) {
	keys := append(risingKeys(), otherKeys()...)
	of := func(key string) api.Entry { return entry(key, flow(1, 1), tat(1)) }
	for _, a := range keys {
		expectIs(t, "one key", stateOf(1, 1, of(a)), plainKey(a))
		for _, b := range keys {
			two := plainKey(a) && plainKey(b) && ahead(a, b)
			expectIs(t, "two keys", stateOf(1, 1, of(a), of(b)), two)
			for _, c := range keys {
				expectIs(t, "three keys", stateOf(1, 1, of(a), of(b), of(c)), two && plainKey(c) && ahead(b, c))
			}
		}
	}
}

// TestLengthsOfKeys: every length at the first, a middle and the last place, the others rising about it.
func TestLengthsOfKeys(t *testing.T) {
	of := func(key string) api.Entry { return entry(key, grid(3, 10), used(1, 2)) }
	lengths := []int{255, 256, 257, 320, 512 + 3, 65536 + 3}
	for length := range 140 {
		lengths = append(lengths, length)
	}
	for _, length := range lengths {
		for _, x := range []string{"b", "\x00", "\xff"} {
			key := of(strings.Repeat(x, length))
			want := length >= 1 && length <= 64
			expectIs(t, fmt.Sprint(length, " bytes, alone"), stateOf(1, 1, key), want)
			if x == "b" {
				expectIs(t, fmt.Sprint(length, " bytes, first"), stateOf(1, 1, key, of("c"), of("d")), want)
				expectIs(t, fmt.Sprint(length, " bytes, in the middle"), stateOf(1, 1, of("a"), key, of("c")), want)
				expectIs(t, fmt.Sprint(length, " bytes, last"), stateOf(1, 1, of("a"), of("aa"), key), want)
			}
		}
	}
	expectIs(t, "64 bytes in fewer characters", stateOf(1, 1, of(strings.Repeat("ö", 32))), true)
	expectIs(t, "66 bytes in fewer characters", stateOf(1, 1, of(strings.Repeat("ö", 33))), false)
}

// TestPoliciesAndLevels: each policy with each level, right and wrong ones, at every place.
func TestPoliciesAndLevels(t *testing.T) {
	for _, p := range append(goodPolicies(), badPolicies()...) {
		for _, v := range levels() {
			for at, e := range abc().Keys {
				expectIs(t, fmt.Sprint(p, v, " at place ", at), with(abc(), at, entry(e.Key, p, v)), plainFits(p, v))
			}
		}
	}
}

// TestOneFaultAmongManyKeys: at each place of a full state.
func TestOneFaultAmongManyKeys(t *testing.T) {
	s := fullStates()[0]
	for at := 0; at < full; at += 315 {
		e := s.Keys[at]
		expectIs(t, "no policy", with(s, at, entry(e.Key, api.Policy{}, api.Level{})), false)
		expectIs(t, "a level that isn't in form", with(s, at, entry(e.Key, e.Policy, api.Level{Tat: 1, Index: 1})), false)
		expectIs(t, "a key of 65 bytes", with(s, at, entry(e.Key+strings.Repeat("+", 55), e.Policy, e.Level)), false)
		expectIs(t, "a key of 64 bytes", with(s, at, entry(e.Key+strings.Repeat("+", 54), e.Policy, e.Level)), true)
		expectIs(t, "an empty key", with(s, at, entry("", e.Policy, e.Level)), false)
		if at > 0 {
			expectIs(t, "the key ahead again", with(s, at, entry(s.Keys[at-1].Key, e.Policy, e.Level)), false)
			expectIs(t, "a key ahead of the one ahead", with(s, at, entry("key", e.Policy, e.Level)), false)
		}
		if at+1 < full {
			expectIs(t, "the key behind already", with(s, at, entry(s.Keys[at+1].Key, e.Policy, e.Level)), false)
		}
	}
	for _, at := range []int{full - 1, full - 2} {
		expectIs(t, "no policy", with(s, at, entry(s.Keys[at].Key, api.Policy{}, api.Level{})), false)
		expectIs(t, "the same key", with(s, at, entry(s.Keys[at-1].Key, flow(1, 1), api.Level{})), false)
	}
}

// TestWhatIsNotLookedAt: Lsn 0 with keys, a floor below what the levels tell, a count above the limit.
func TestWhatIsNotLookedAt(t *testing.T) {
	expectIs(t, "keys behind no record", stateOf(0, 0, abc().Keys...), true)
	expectIs(t, "a level far above the floor", stateOf(1, 0, entry("a", flow(1, 0), tat(m))), true)
	expectIs(t, "a window far above the floor", stateOf(1, 0, entry("a", grid(1, m), used(m, 1))), true)
	expectIs(t, "a count above the limit", stateOf(1, 9, entry("a", grid(2, 1), used(0, 3))), true)
	expectIs(t, "more keys than records", stateOf(1, 9, manyKeys(50)...), true)
}

// TestDrawnStates holds Valid against the plain reckoning over states in which anything may stand, most of them nearly valid.
func TestDrawnStates(t *testing.T) {
	r := rand.New(rand.NewSource(131))
	valid := 0
	for range 200000 {
		s := drawnState(r)
		expectValid(t, "drawn", s)
		if plainValid(s) {
			valid++
		}
	}
	if valid < 20000 || valid > 180000 {
		t.Errorf("%d of the 200000 drawn states are valid: too few or too many", valid)
	}
}

// drawnState is valid but for a fault or two, or without one.
func drawnState(r *rand.Rand) api.State {
	s := api.State{Lsn: uint64(r.Intn(9)), Floor: anyNumber(r)}
	for range r.Intn(6) {
		p := anyPolicy(r)
		v := tat(anyNumber(r))
		if p.Kind == api.Grid {
			v = used(anyNumber(r), anyNumber(r))
		}
		s.Keys = append(s.Keys, entry(anyKey(r), p, v))
	}
	slices.SortFunc(s.Keys, func(a, b api.Entry) int { return strings.Compare(a.Key, b.Key) })
	if r.Intn(3) > 0 {
		s.Keys = slices.CompactFunc(s.Keys, func(a, b api.Entry) bool { return a.Key == b.Key })
	}
	for range r.Intn(3) {
		disturb(r, &s)
	}
	return s
}

// disturb makes one thing in s another one, whichever; s may still be valid.
func disturb(r *rand.Rand, s *api.State) {
	kind := r.Intn(8)
	if kind == 0 {
		s.Lsn = anyNumber(r)
	}
	if kind == 1 {
		s.Floor = anyNumber(r)
	}
	if kind < 2 || len(s.Keys) == 0 {
		return
	}
	e := &s.Keys[r.Intn(len(s.Keys))]
	fields := []*uint64{&e.Policy.Gap, &e.Policy.Slack, &e.Policy.Limit, &e.Policy.Span, &e.Level.Tat, &e.Level.Index, &e.Level.Count}
	switch kind {
	case 2, 3, 4:
		*fields[r.Intn(len(fields))] = anyNumber(r)
	case 5:
		e.Policy.Kind = r.Intn(5) - 1
	case 6:
		e.Key = anyKey(r)
	case 7:
		other := &s.Keys[r.Intn(len(s.Keys))]
		*e, *other = *other, *e
	}
}
