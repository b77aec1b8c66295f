package table_test

import (
	"fmt"
	"testing"

	"turnstile/table"
)

func TestNewHasNoKeys(t *testing.T) {
	for _, limit := range []int{least, least + 1, -1 << 32, -5, -1, 0, 1, 2, 4096, 1 << 31, 1 << 32, greatest - 1, greatest} {
		b := bothOf[int](limit)
		if b.table == nil {
			t.Fatalf("P12.1: New(%d) is nil", limit)
		}
		b.check(t, edgeKeys()...)
		if b.remove(t, "") || b.remove(t, "a") {
			t.Errorf("P12.4: Delete in New(%d) is true", limit)
		}
	}
}

// TestNoRoomAtAll: below a limit of 1 there is never a key, whatever is tried.
func TestNoRoomAtAll(t *testing.T) {
	for _, limit := range []int{least, least + 1, -1 << 32, -1 << 31, -4096, -5, -2, -1, 0} {
		m := table.New[string](limit)
		for round := range 3 {
			for _, key := range edgeKeys() {
				if m.Put(key, "x") || m.Delete(key) || m.Len() != 0 {
					t.Fatalf("P12.1: New(%d) has taken %q in round %d", limit, key, round)
				}
				if v, ok := m.Get(key); v != "" || ok {
					t.Fatalf("P12.2: Get(%q) of New(%d) is %q, %v", key, limit, v, ok)
				}
			}
			same(t, "All of a table without room", m.All(), nil)
			same(t, "From of a table without room", m.From(""), nil)
		}
	}
}

// TestUpToTheLimit fills tables to their last key; there a key that is there takes a new value, and one that isn't has no room until another one is gone.
func TestUpToTheLimit(t *testing.T) {
	const spare = 3
	for _, limit := range []int{1, 2, 3, 4, 5, 7, 8, 40, 200} {
		b := bothOf[int](limit)
		for i := range limit + spare {
			if got := b.put(t, fmt.Sprint("key", i), i); got != (i < limit) {
				t.Fatalf("P12.3: Put of key %d of %d is %v", i+1, limit, got)
			}
		}
		for i := range limit + spare {
			for range 2 { // it takes no room to put one that is there, however often
				if got := b.put(t, fmt.Sprint("key", i), -i); got != (i < limit) {
					t.Fatalf("P12.3: at the limit Put of a key there, or not, is %v", got)
				}
			}
		}
		b.check(t, "key0", "key1", fmt.Sprint("key", limit), "")
		for i := range limit {
			if b.put(t, "new", i) || !b.remove(t, fmt.Sprint("key", i)) || !b.put(t, "new", i) || b.put(t, fmt.Sprint("key", i), i) {
				t.Fatalf("P12.3: not just one key's room behind a Delete at the limit %d", limit)
			}
			if !b.remove(t, "new") || b.remove(t, "new") || b.remove(t, fmt.Sprint("key", i)) {
				t.Fatalf("P12.4: Delete of what is there once, at the limit %d", limit)
			}
			if !b.put(t, fmt.Sprint("again", i), i) {
				t.Fatalf("P12.4: no room behind a Delete at the limit %d", limit)
			}
			b.check(t, "new", "key1")
		}
	}
}

// TestEmptiedAndFilled: no room is lost or won, however often a table is filled and emptied.
func TestEmptiedAndFilled(t *testing.T) {
	const limit = 6
	b := bothOf[int](limit)
	for round := range 20 {
		for i := range limit + 1 {
			key := fmt.Sprint((i + round) % 9)
			if got := b.put(t, key, round); got != (i < limit) {
				t.Fatalf("P12.3: Put of key %d in round %d is %v", i+1, round, got)
			}
		}
		b.check(t, "", "4", "9")
		for i := range 9 {
			b.remove(t, fmt.Sprint((i*4+round)%9))
			b.remove(t, "none")
		}
		b.check(t, "", "4", "9")
		if b.table.Len() != 0 {
			t.Fatalf("P12.5: Len is %d behind a Delete of all", b.table.Len())
		}
	}
}

// TestTheGreatestLimits: they are limits as others are.
func TestTheGreatestLimits(t *testing.T) {
	for _, limit := range []int{1 << 31, 1 << 32, greatest - 1, greatest} {
		b := bothOf[int](limit)
		for i := range 300 {
			if !b.put(t, fmt.Sprint(i%250), i) {
				t.Fatalf("P12.3: no room for key %d of %d", i, limit)
			}
		}
		b.check(t, "", "100", "x")
	}
}
