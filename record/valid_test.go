package record_test

import (
	"math/rand"
	"slices"
	"strings"
	"testing"

	"turnstile/api"
	"turnstile/record"
)

func expectValid(t *testing.T, r api.Record, want bool) {
	t.Helper()
	if have := record.Valid(r); have != want {
		t.Errorf("P11.1: Valid(%s) is %v, want %v", tell(r), have, want)
	}
	expectRecord(t, r)
}

// TestKindsAndKeys: of every kind the key decides, whatever the floor.
func TestKindsAndKeys(t *testing.T) {
	for _, kind := range kinds() {
		r := api.Record{Kind: kind}
		if kind == api.RecDefine {
			r.Policy = flow(10, 3)
		}
		for _, r.Floor = range []uint64{0, 1, 1 << 63, m} {
			for _, r.Key = range goodKeys() {
				expectValid(t, r, kind == 1 || kind == 2 || kind == 3)
			}
			for _, r.Key = range badKeys() {
				expectValid(t, r, false)
			}
		}
	}
}

func TestKeysOfEveryLengthAndByte(t *testing.T) {
	long := make([]byte, 300)
	for i := range long {
		long[i] = byte(i * 7)
	}
	for length := range long {
		expectValid(t, remove(9, string(long[:length])), length >= 1 && length <= 64)
	}
	for x := range 256 {
		expectValid(t, remove(9, string([]byte{byte(x)})), true)
		expectValid(t, define(9, string([]byte{'k', byte(x), 'k'}), grid(1, 1)), true)
	}
}

func TestPoliciesOfEveryKind(t *testing.T) {
	for _, p := range goodPolicies() {
		expectValid(t, define(5, "k", p), true)
	}
	for _, p := range badPolicies() {
		expectValid(t, define(5, "k", p), false)
	}
	for _, p := range append(goodPolicies(), badPolicies()...) {
		hasOne := p != api.Policy{}
		d, c := remove(5, "k"), ceiling(5, "k", tat(1))
		d.Policy, c.Policy = p, p
		expectValid(t, d, !hasOne)
		expectValid(t, c, !hasOne)
	}
}

func TestLevelsOfEveryKind(t *testing.T) {
	good := goodLevels()
	for _, v := range good {
		expectValid(t, ceiling(5, "k", v), true)
	}
	for _, v := range everyLevel([]uint64{0, 1, 256, 1 << 32, 1 << 63, m}) {
		none := v == api.Level{}
		d, c := remove(5, "k"), define(5, "k", flow(10, 3))
		d.Level, c.Level = v, v
		expectValid(t, d, none)
		expectValid(t, c, none)
		expectValid(t, ceiling(5, "k", v), v.Tat == 0 || v.Index == 0 && v.Count == 0)
	}
	for _, v := range []api.Level{{Tat: 1, Count: 1}, {Tat: 1, Index: 1}, {Tat: m, Index: m, Count: m}, {Tat: m, Count: 1}} {
		if slices.Contains(good, v) {
			t.Errorf("%+v is taken for a ceiling's", v)
		}
		expectValid(t, ceiling(5, "k", v), false)
	}
}

// TestEveryRecord goes through kinds, keys, policies and levels together, so that several things are amiss at once.
func TestEveryRecord(t *testing.T) {
	keys := []string{"", "k", strings.Repeat("k", 64), strings.Repeat("k", 65)}
	policies := append(goodPolicies(), badPolicies()...)
	count := 0
	for _, kind := range kinds() {
		for _, key := range keys {
			for _, p := range policies {
				for _, v := range everyLevel([]uint64{0, 1, m}) {
					r := api.Record{Kind: kind, Floor: 7, Key: key, Policy: p, Level: v}
					expectRecord(t, r)
					if record.Valid(r) {
						count++
					}
				}
			}
		}
	}
	levels := 1 + 2 + 8 // of a ceiling: nothing, Tat alone, Index and Count alone
	if want := 2 * (len(goodPolicies()) + 1 + levels); count != want {
		t.Errorf("P11.1: %d records were valid, want %d", count, want)
	}
}

func TestDisturbedRecords(t *testing.T) {
	r := rand.New(rand.NewSource(111))
	seen := map[bool]int{}
	for range 200000 {
		d := disturbed(r, anyRecord(r))
		expectRecord(t, d)
		seen[plainValid(d)]++
	}
	if seen[true] < 10000 || seen[false] < 10000 {
		t.Errorf("%d were records, %d weren't, want 10000 of each and more", seen[true], seen[false])
	}
}
