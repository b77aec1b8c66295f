package state_test

import (
	"math/rand"
	"testing"

	"turnstile/api"
	"turnstile/state"
)

// expectRise holds what is behind a record against what was ahead of it: Floor, and the policy and the level of each key that is in both.
func expectRise(t *testing.T, before api.State, r api.Record, behind api.State) {
	t.Helper()
	if behind.Floor < before.Floor {
		t.Fatalf("P13.4: behind %s Floor is %d, was %d", tellRecord(r), behind.Floor, before.Floor)
	}
	for _, e := range before.Keys {
		for _, now := range behind.Keys {
			if now.Key == e.Key && (now.Policy != e.Policy || !plainFits(e.Policy, now.Level) || !plainCovers(e.Policy, now.Level, e.Level)) {
				t.Fatalf("P13.4: behind %s the key %s has %v, %v, had %v, %v", tellRecord(r), tellKey(e.Key), now.Policy, now.Level, e.Policy, e.Level)
			}
		}
	}
}

// TestFloorsAndLevelsRise: each record over each state, and whatever is taken.
func TestFloorsAndLevelsRise(t *testing.T) {
	taken := [4]int{}
	for _, s := range smallStates() {
		for _, r := range goodRecords(append(risingKeys(), "c", "d")) {
			next, err := state.Apply(s, s.Lsn+1, r)
			if err == nil {
				expectRise(t, s, r, next)
				taken[r.Kind]++
			}
		}
	}
	for kind, count := range taken[1:] {
		if count < 20 {
			t.Errorf("%d records of kind %d were taken: too few", count, kind+1)
		}
	}
}

// TestCeilingsNeverFall: every level in form behind every other one, of both rules, one record behind the other and as one row.
func TestCeilingsNeverFall(t *testing.T) {
	numbers := []uint64{0, 1, 2, 1 << 32, 1 << 63, m - 1, m}
	var flows, grids []api.Level
	for _, x := range numbers {
		flows = append(flows, tat(x))
		for _, y := range numbers {
			grids = append(grids, used(x, y))
		}
	}
	expectNoFall(t, flow(10, 20), flows)
	expectNoFall(t, grid(3, 100), grids)
}

func expectNoFall(t *testing.T, p api.Policy, list []api.Level) {
	t.Helper()
	for _, a := range list {
		for _, b := range list {
			s := stateOf(3, 9, entry("a", flow(1, 0), tat(1)), entry("k", p, a), entry("z", grid(1, 1), used(1, 1)))
			rises := plainCovers(p, b, a)
			one, err := state.Apply(s, 4, ceiling(0, "k", b))
			if rises != (err == nil) || rises && one.Keys[1].Level != b {
				t.Fatalf("P13.4: %v behind %v of %v: %s, %v", b, a, p, tell(one), err)
			}
			row := []api.Record{define(0, "n", p), ceiling(0, "n", a), ceiling(0, "n", b)}
			two, err := state.Replay(s, 4, row)
			if rises != (err == nil) || rises && (two.Keys[2].Key != "n" || two.Keys[2].Level != b) {
				t.Fatalf("P13.4: %v behind %v of %v in a row: %s, %v", b, a, p, tell(two), err)
			}
		}
	}
}

// TestRowsRise: over a whole row in which no key is deleted each level covers the one that it had.
func TestRowsRise(t *testing.T) {
	r := rand.New(rand.NewSource(139))
	for range 200 {
		s, row := drawnRun(r, 40, false)
		var kept []api.Record
		now := s
		for _, d := range row {
			if next, err := plainApply(now, plus(now.Lsn, 1), d); err == nil && d.Kind != api.RecDelete {
				now, kept = next, append(kept, d)
			}
		}
		behind, err := state.Replay(s, s.Lsn+1, kept)
		if err != nil || len(behind.Keys) < len(s.Keys) {
			t.Fatalf("P13.4: a row without a delete: %s, %v", tell(behind), err)
		}
		expectRise(t, s, api.Record{}, behind)
	}
}
