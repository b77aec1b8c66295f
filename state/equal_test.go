package state_test

import (
	"math/rand"
	"slices"
	"testing"

	"turnstile/api"
	"turnstile/state"
)

// expectEqual asks both ways round.
func expectEqual(t *testing.T, what string, a, b api.State, want bool) {
	t.Helper()
	if state.Equal(a, b) != want || state.Equal(b, a) != want {
		t.Errorf("P13.1: %s: Equal(%s, %s) is not %v both ways round", what, tell(a), tell(b), want)
	}
	if plainEqual(a, b) != want {
		t.Errorf("P13.1: %s: %s and %s: the test is wrong", what, tell(a), tell(b))
	}
}

// elsewhere is s in memory of its own, with spare room.
func elsewhere(s api.State) api.State {
	keys := make([]api.Entry, 0, len(s.Keys)+3)
	s.Keys = append(keys, s.Keys...)
	return s
}

func TestStatesAreEqualToThemselves(t *testing.T) {
	for _, list := range [][]api.State{smallStates(), fullStates(), wrongStates()} {
		for _, s := range list {
			expectEqual(t, "itself", s, s, true)
			expectEqual(t, "a copy", s, elsewhere(s), true)
		}
	}
}

func TestAllPairsOfStates(t *testing.T) {
	list := append(smallStates(), wrongStates()...)
	for _, a := range list {
		for _, b := range list {
			if have, want := state.Equal(a, b), plainEqual(a, b); have != want {
				t.Fatalf("P13.1: Equal(%s, %s) is %v, want %v", tell(a), tell(b), have, want)
			}
		}
	}
}

// others are e with one field made another one.
func others(e api.Entry) []api.Entry {
	var list []api.Entry
	for _, x := range []uint64{1, 1 << 8, 1 << 32, 1 << 63, m} {
		for field := range 7 {
			d := e
			numbers := []*uint64{&d.Policy.Gap, &d.Policy.Slack, &d.Policy.Limit, &d.Policy.Span, &d.Level.Tat, &d.Level.Index, &d.Level.Count}
			*numbers[field] ^= x
			list = append(list, d)
		}
	}
	for _, kind := range []int{-1, 0, 3, e.Policy.Kind + 256, e.Policy.Kind + 1<<32, -e.Policy.Kind} {
		d := e
		d.Policy.Kind = kind
		list = append(list, d)
	}
	for _, key := range []string{"", e.Key + "\x00", e.Key + e.Key, "A", "\xff"} {
		d := e
		d.Key = key
		list = append(list, d)
	}
	return list
}

// TestStatesThatDifferInOneThing: in a number, or in one field of the first, a middle or the last key.
func TestStatesThatDifferInOneThing(t *testing.T) {
	for _, s := range []api.State{abc(), allKeys(), stateOf(m, 0, abc().Keys...)} {
		for _, x := range []uint64{1, 1 << 8, 1 << 32, 1 << 63, m} {
			expectEqual(t, "another Lsn", s, stateOf(s.Lsn^x, s.Floor, s.Keys...), false)
			expectEqual(t, "another Floor", s, stateOf(s.Lsn, s.Floor^x, s.Keys...), false)
			expectEqual(t, "another Lsn and Floor", s, stateOf(s.Lsn^x, s.Floor^x, s.Keys...), false)
		}
		for _, at := range []int{0, 1, len(s.Keys) - 1} {
			for _, e := range others(s.Keys[at]) {
				expectEqual(t, "another field", s, with(s, at, e), false)
			}
		}
		for cut := range s.Keys {
			expectEqual(t, "fewer keys", s, stateOf(s.Lsn, s.Floor, s.Keys[:cut]...), false)
			expectEqual(t, "fewer keys", s, stateOf(s.Lsn, s.Floor, s.Keys[cut+1:]...), false)
			expectEqual(t, "one key less", s, stateOf(s.Lsn, s.Floor, slices.Delete(slices.Clone(s.Keys), cut, cut+1)...), false)
			expectEqual(t, "a key twice", s, stateOf(s.Lsn, s.Floor, slices.Insert(slices.Clone(s.Keys), cut, s.Keys[cut])...), false)
		}
		for i := range len(s.Keys) - 1 {
			swapped := elsewhere(s)
			swapped.Keys[i], swapped.Keys[i+1] = swapped.Keys[i+1], swapped.Keys[i]
			expectEqual(t, "another order", s, swapped, false)
		}
	}
	expectEqual(t, "Lsn and Floor the other way round", stateOf(3, 5), stateOf(5, 3), false)
	expectEqual(t, "an entry of zeros", api.State{}, api.State{Keys: make([]api.Entry, 1)}, false)
}

func TestNoKeysAndAnEmptyRow(t *testing.T) {
	empty := []api.State{{}, {Keys: []api.Entry{}}, {Keys: make([]api.Entry, 0, 9)}, {Keys: abc().Keys[:0]}, {Keys: abc().Keys[3:]}}
	for _, a := range empty {
		for _, b := range empty {
			expectEqual(t, "no keys", a, b, true)
			b.Lsn, b.Floor = 4, 5
			expectEqual(t, "no keys, other numbers", a, b, false)
		}
		expectEqual(t, "no keys, and keys", a, stateOf(0, 0, abc().Keys...), false)
	}
}

func TestOneFieldAmongManyKeys(t *testing.T) {
	s := fullStates()[0]
	for at := 0; at < full; at += 455 {
		for _, e := range others(s.Keys[at])[:8] {
			expectEqual(t, "another field", s, with(s, at, e), false)
		}
	}
	expectEqual(t, "another last level", s, with(s, full-1, entry(s.Keys[full-1].Key, s.Keys[full-1].Policy, tat(1))), false)
}

func TestDrawnPairs(t *testing.T) {
	r := rand.New(rand.NewSource(133))
	same := 0
	for range 100000 {
		a := drawnState(r)
		b := elsewhere(a)
		for range r.Intn(3) {
			disturb(r, &b)
		}
		have, want := state.Equal(a, b), plainEqual(a, b)
		if have != want || state.Equal(b, a) != want {
			t.Fatalf("P13.1: Equal(%s, %s) is %v, want %v", tell(a), tell(b), have, want)
		}
		if want {
			same++
		}
	}
	if same < 10000 || same > 90000 {
		t.Errorf("%d of the 100000 drawn pairs are the same: too few or too many", same)
	}
}
