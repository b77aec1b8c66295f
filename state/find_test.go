package state_test

import (
	"fmt"
	"math/rand"
	"strings"
	"testing"

	"turnstile/api"
	"turnstile/state"
)

func expectFind(t *testing.T, what string, s api.State, key string) {
	t.Helper()
	wantAt, wantThere := plainFind(s, key)
	if at, there := state.Find(s, key); at != wantAt || there != wantThere {
		t.Fatalf("P13.1: %s: Find(%s, %s) is %d, %v, want %d, %v", what, tell(s), tellKey(key), at, there, wantAt, wantThere)
	}
}

// TestFindAmongAllSubsets: every choice of a row of rising keys, each of the row's texts and what lies between them asked for.
func TestFindAmongAllSubsets(t *testing.T) {
	row := []string{"\x00", "a", "a\x00", "ab", "abc", "b", "b\xff", "c", "\xff"}
	texts := append([]string{"", "\x00\x00", "\x01", "A", "a\x00\x00", "aa", "abb", "abd", "ac", "b\xfe", "b\xff\x00", "bb", "z", "\xff\x00",
		strings.Repeat("b", 64), strings.Repeat("b", 65), strings.Repeat("\xff", 300)}, row...)
	for chosen := range 1 << len(row) {
		var s api.State
		for i, key := range row {
			if chosen>>i&1 == 1 {
				s.Keys = append(s.Keys, entry(key, flow(1, 0), api.Level{}))
			}
		}
		for _, key := range texts {
			expectFind(t, "rising keys", s, key)
		}
	}
}

// TestFindAmongMany: ahead of the first, behind the last, at each and just behind each.
func TestFindAmongMany(t *testing.T) {
	for _, count := range []int{0, 1, 2, 3, 15, 16, 17, 1000} {
		s := stateOf(1, 1, manyKeys(count)...)
		for i, e := range s.Keys {
			expectFind(t, "at a key", s, e.Key)
			expectFind(t, "behind a key", s, between(i))
		}
		for _, key := range []string{"", "k", "key", "key ", "key 0", "l", "\xff"} {
			expectFind(t, "beside the keys", s, key)
		}
	}
	s := stateOf(1, 1, manyKeys(full)...)
	for i := 0; i < full; i += 117 {
		expectFind(t, "at a key", s, s.Keys[i].Key)
		expectFind(t, "behind a key", s, between(i))
	}
	expectFind(t, "at the last", s, s.Keys[full-1].Key)
	expectFind(t, "behind the last", s, between(full-1))
}

func TestFindAmongAllKeys(t *testing.T) {
	s := allKeys()
	for _, key := range append(risingKeys(), otherKeys()...) {
		expectFind(t, "every key", s, key)
		expectFind(t, "every key", s, key+"\x00")
		if key != "" {
			expectFind(t, "every key", s, key[:len(key)-1])
		}
	}
}

// TestFindInStatesThatAreNotValid: where the keys rise strictly all the same, Find answers as in others.
func TestFindInStatesThatAreNotValid(t *testing.T) {
	s := api.State{Lsn: m, Floor: 3}
	for _, key := range []string{"", "a", strings.Repeat("a", 65), "b", strings.Repeat("b", 1000), "c"} {
		s.Keys = append(s.Keys, entry(key, api.Policy{Kind: -1, Gap: 3}, api.Level{Tat: 1, Index: 2}))
	}
	for _, key := range []string{"", "\x00", "a", "aa", strings.Repeat("a", 65), strings.Repeat("a", 66), "b", strings.Repeat("b", 1000), "c", "d"} {
		expectFind(t, "an Lsn, keys and policies that are none", s, key)
	}
	many := stateOf(0, 0, manyKeys(3*full)...)
	for i := 0; i < 3*full; i += 311 {
		expectFind(t, "more than MaxKeys keys", many, many.Keys[i].Key)
		expectFind(t, "more than MaxKeys keys", many, between(i))
	}
}

// TestFindAmongKeysThatDoNotRise ends, and does not panic: nothing else is promised there.
func TestFindAmongKeysThatDoNotRise(t *testing.T) {
	r := rand.New(rand.NewSource(132))
	for count := range 40 {
		for range 200 {
			var s api.State
			for range count {
				s.Keys = append(s.Keys, entry(anyKey(r), api.Policy{}, api.Level{}))
			}
			state.Find(s, anyKey(r))
			state.Find(s, "")
			state.Find(s, strings.Repeat("\xff", 70))
		}
	}
	for _, key := range []string{"", "a", "b"} {
		s := api.State{Keys: make([]api.Entry, 5000)}
		state.Find(s, key)
		for i := range s.Keys {
			s.Keys[i].Key = fmt.Sprintf("key %06d", 5000-i)
		}
		state.Find(s, key)
	}
}
