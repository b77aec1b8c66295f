package image_test

import (
	"fmt"
	"strings"
	"testing"

	"turnstile/api"
)

func TestStatesThatAreNone(t *testing.T) {
	for _, s := range wrongStates() {
		expectRefused(t, "a sample with a fault", s)
	}
}

func TestStatesOfTooManyKeys(t *testing.T) {
	for _, count := range []int{4097, 4098, 8192, 65536, 65536 + 4096} {
		expectRefused(t, "more than MaxKeys keys", stateOf(1, 1, manyKeys(count)...))
	}
}

func TestStatesAboveMaxLsn(t *testing.T) {
	for _, keys := range [][]api.Entry{nil, abc().Keys, manyKeys(full)} {
		for _, floor := range []uint64{0, last, m} {
			for _, lsn := range []uint64{last + 1, last + 2, 1 << 63, m - 1, m} {
				expectRefused(t, "an Lsn above MaxLsn", stateOf(lsn, floor, keys...))
			}
		}
	}
}

// TestStatesWhoseKeysDoNotRise goes through all rows of two and of three of the keys.
func TestStatesWhoseKeysDoNotRise(t *testing.T) {
	keys := risingKeys()
	for i, a := range keys {
		for j, b := range keys {
			if i >= j {
				expectRefused(t, "two keys that don't rise", ofKeys(a, b))
			} else if err := expectState(t, "two keys that rise", ofKeys(a, b)); err != nil {
				t.Errorf("P14.1: Encode(%s) answers %v", tell(ofKeys(a, b)), err)
			}
			for _, c := range keys {
				expectState(t, "three keys", ofKeys(a, b, c))
			}
		}
	}
}

// TestStatesWhoseKeysAreNone: every length that none has, at the first, a middle and the last place.
func TestStatesWhoseKeysAreNone(t *testing.T) {
	lengths := []int{0, 128, 255, 256, 257, 320, 512 + 3, 65535, 65536, 65536 + 3}
	for length := 65; length < 100; length++ {
		lengths = append(lengths, length)
	}
	for _, length := range lengths {
		key := strings.Repeat("b", length)
		what := fmt.Sprint("a key of ", length, " bytes")
		expectRefused(t, what, ofKeys(key))
		expectRefused(t, what, ofKeys(key, "c"))
		expectRefused(t, what, ofKeys("a", key, "c"))
		expectRefused(t, what, ofKeys("a", "aa", key))
	}
}

// TestStatesWithOneFaultAmongManyKeys: at each place of a full state.
func TestStatesWithOneFaultAmongManyKeys(t *testing.T) {
	s := stateOf(9, 5, manyKeys(full)...)
	for _, at := range []int{1, 2, 1365, 4093, 4094, 4095} {
		e := s.Keys[at]
		expectRefused(t, "no policy", with(s, at, entry(e.Key, api.Policy{}, api.Level{})))
		expectRefused(t, "a level that isn't in form", with(s, at, entry(e.Key, e.Policy, api.Level{Tat: 1, Index: 1})))
		expectRefused(t, "a key of 65 bytes", with(s, at, entry(e.Key+strings.Repeat("+", 55), e.Policy, e.Level)))
		expectRefused(t, "an empty key", with(s, at, entry("", e.Policy, e.Level)))
		expectRefused(t, "the key ahead again", with(s, at, entry(s.Keys[at-1].Key, e.Policy, e.Level)))
	}
}
