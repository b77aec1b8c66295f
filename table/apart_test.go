package table_test

import (
	"fmt"
	"math/rand"
	"strings"
	"sync"
	"testing"

	"turnstile/table"
)

// TestTablesChangedByTurns: made the same way, told the same and then unlike things; what one is told no other one sees.
func TestTablesChangedByTurns(t *testing.T) {
	list := changes()
	for k, c := range list {
		first, second, third := filled(t, 7), filled(t, 7), bothOf[int](7)
		for round := range 4 {
			c(t, first)
			second.check(t, "c", "d")
			third.check(t, "c", "d")
			list[(k+round+1)%len(list)](t, second)
			first.check(t, "c", "d")
			third.check(t, "c", "d")
			list[(k*3+round)%len(list)](t, third)
			first.check(t, "c", "d")
			second.check(t, "c", "d")
		}
	}
}

// TestAnotherTableWhileRunning: one table is changed in the steps of another one's iterator.
func TestAnotherTableWhileRunning(t *testing.T) {
	for _, c := range changes() {
		everyRun(t, func(b *both[int], x run) {
			other := filled(t, 7)
			x.goThrough(t, whole, func(int) {
				c(t, other)
				allOf(other).goThrough(t, whole, nothing)
			})
			x.goThrough(t, whole, nothing)
			b.check(t)
			other.check(t)
		})
	}
}

// TestLimitsApart: each table has its own room.
func TestLimitsApart(t *testing.T) {
	var tables []*both[int]
	for limit := range 10 {
		tables = append(tables, bothOf[int](limit), bothOf[int](limit))
	}
	for i := range 12 {
		for _, b := range tables {
			b.put(t, fmt.Sprint(i), i)
		}
	}
	for limit := range 10 {
		if n := tables[2*limit].table.Len(); n != limit {
			t.Errorf("P12.7: beside others a table of at most %d keys holds %d", limit, n)
		}
		tables[2*limit].check(t, "5")
		tables[2*limit+1].check(t, "5")
	}
}

// TestNothingChanges: at each number of keys, a refused Put and a Delete of nothing leave all as it was, in tables and in iterators that run.
func TestNothingChanges(t *testing.T) {
	for n := range 12 {
		b := bothOf[int](n)
		for i := range n {
			b.put(t, strings.Repeat("k", (i*7)%12), i+1)
		}
		for i := n; i < 13; i++ {
			none := "n" + strings.Repeat("k", i)
			if b.table.Put(none, 99) || b.table.Delete(none) {
				t.Fatalf("P12.7: at %d keys of %d something was done to %q", n, n, none)
			}
			b.check(t, none, "k", "kk", "kkkkkk")
		}
		for _, x := range []run{allOf(b), fromOf(b, "kkk"), fromOf(b, "none")} {
			x.goThrough(t, whole, func(step int) {
				none := "n" + strings.Repeat("k", step)
				if b.table.Put(none, 99) || b.table.Delete(none) {
					t.Fatalf("P12.7: at %d keys of %d something was done to %q", n, n, none)
				}
			})
			x.goThrough(t, whole, nothing)
		}
	}
}

// TestTablesOfUnlikeValues: tables of one type of values have nothing in common with those of another one.
func TestTablesOfUnlikeValues(t *testing.T) {
	numbers, texts := bothOf[int](9), bothOf[string](9)
	for i := range 30 {
		key := fmt.Sprint(i * 7 % 10)
		numbers.put(t, key, i)
		texts.check(t, key)
		texts.remove(t, key)
		texts.put(t, fmt.Sprint(i*3%10), key)
		numbers.check(t, key)
		numbers.remove(t, fmt.Sprint(i*9%10))
	}
}

// TestTablesSideBySide: each worker has its own; had two of them something in common, they would meet in it.
func TestTablesSideBySide(t *testing.T) {
	var workers sync.WaitGroup
	wrong := make([]string, 8)
	for worker := range wrong {
		workers.Go(func() { wrong[worker] = scriptOfOne(int64(worker % 4)) })
	}
	workers.Wait()
	for worker, what := range wrong {
		if what != "" {
			t.Errorf("P12.7: worker %d beside the others: %s", worker, what)
		}
	}
}

func scriptOfOne(seed int64) string {
	r := rand.New(rand.NewSource(seed))
	m, p := table.New[int](20), plain[int]{limit: 20}
	for step := range 5000 {
		key := drawnKey(r)
		if r.Intn(2) == 0 {
			if m.Put(key, step) != p.put(key, step) {
				return fmt.Sprintf("Put(%q) in step %d", key, step)
			}
		} else if m.Delete(key) != p.remove(key) {
			return fmt.Sprintf("Delete(%q) in step %d", key, step)
		}
		if step%50 == 0 {
			if got := collect(m.All()); told(got) != told(p.all()) {
				return fmt.Sprintf("All in step %d yields %s", step, told(got))
			}
		}
	}
	return ""
}

// TestKeysOutliveTheirBytes: a key made from bytes stays as it was when those are written over.
func TestKeysOutliveTheirBytes(t *testing.T) {
	m := table.New[int](8)
	b := []byte("abcdefgh")
	for i := range b {
		m.Put(string(b[i:]), i)
	}
	for i := range b {
		b[i] = 'x'
	}
	for i := range 8 {
		if v, ok := m.Get("abcdefgh"[i:]); v != i || !ok {
			t.Errorf("P12.2: Get(%q) is %d, %v", "abcdefgh"[i:], v, ok)
		}
	}
}
