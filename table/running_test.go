package table_test

import (
	"fmt"
	"iter"
	"math/rand"
	"testing"
)

// run is an iterator, and what a going through it that begins now has to yield.
type run struct {
	name string
	it   iter.Seq2[string, int]
	want func() []pair[int]
}

func allOf(b *both[int]) run { return run{"All", b.table.All(), b.plain.all} }

func fromOf(b *both[int], key string) run {
	return run{fmt.Sprintf("From(%q)", key), b.table.From(key), func() []pair[int] { return b.plain.from(key) }}
}

// goThrough goes through at most so many steps, and does something in each of them.
func (x run) goThrough(t *testing.T, most int, do func(step int)) {
	t.Helper()
	want := x.want()
	if most < len(want) {
		want = want[:most]
	}
	step := 0
	for key, v := range x.it {
		if step == most {
			break
		}
		if step >= len(want) || want[step] != (pair[int]{key, v}) {
			t.Fatalf("P12.6: %s yields %q %d in step %d, want %v", x.name, key, v, step, told(want))
		}
		do(step)
		step++
	}
	if step != len(want) {
		t.Fatalf("P12.6: %s ends behind %d steps, want %v", x.name, step, told(want))
	}
}

const whole = 1 << 30

func nothing(int) {}

// change is something that is told a table; some of them change nothing.
type change func(t *testing.T, b *both[int])

func filled(t *testing.T, limit int) *both[int] {
	t.Helper()
	b := bothOf[int](limit)
	for i, key := range []string{"f", "", "h", "b", "d"} {
		b.put(t, key, i)
	}
	return b
}

// changes: to what filled makes, Puts of keys that are there and of keys that aren't, Deletes of both, Gets of both, and more of them at once; some Puts are refused if the limit is near.
func changes() []change {
	var list []change
	for _, key := range []string{"", "\x00", "b", "c", "d", "e", "f", "g", "h", "i"} {
		list = append(list,
			func(t *testing.T, b *both[int]) { b.put(t, key, 100) },
			func(t *testing.T, b *both[int]) { b.remove(t, key) })
	}
	return append(list,
		func(t *testing.T, b *both[int]) { b.get(t, "d"); b.get(t, "e"); b.len(t) },
		func(t *testing.T, b *both[int]) { b.remove(t, "d"); b.put(t, "d", 101) },
		func(t *testing.T, b *both[int]) { b.remove(t, "d"); b.put(t, "e", 102) },
		func(t *testing.T, b *both[int]) { removeAll(t, b) },
		func(t *testing.T, b *both[int]) {
			for i, p := range b.plain.all() {
				b.put(t, p.key, 200+i)
			}
		},
		func(t *testing.T, b *both[int]) {
			for i := range 30 {
				b.put(t, fmt.Sprint("c", i), 300+i)
			}
		},
		func(t *testing.T, b *both[int]) {
			removeAll(t, b)
			for i := range 30 {
				b.put(t, fmt.Sprint("e", i), 400+i)
			}
		})
}

func removeAll(t *testing.T, b *both[int]) {
	t.Helper()
	for _, p := range b.plain.all() {
		b.remove(t, p.key)
	}
}

// runsOf: iterators over what filled makes, from a key that is there, from one that isn't, from the empty one and from behind all.
func runsOf(b *both[int]) []run {
	list := []run{allOf(b)}
	for _, key := range []string{"", "\x00", "b", "c", "f", "h", "h\x00"} {
		list = append(list, fromOf(b, key))
	}
	return list
}

func limits() []int { return []int{5, 6, greatest} }

// everyRun does something with a new table and each of its iterators, at each limit.
func everyRun(t *testing.T, do func(b *both[int], x run)) {
	t.Helper()
	for _, limit := range limits() {
		for i := range runsOf(filled(t, limit)) {
			b := filled(t, limit)
			do(b, runsOf(b)[i])
		}
	}
}

// TestOneChangeInOneStep: the running iterator doesn't see it, the table and the next going through do.
func TestOneChangeInOneStep(t *testing.T) {
	for _, c := range changes() {
		for at := range 5 {
			everyRun(t, func(b *both[int], x run) {
				x.goThrough(t, whole, func(step int) {
					if step == at {
						c(t, b)
						b.check(t, "c", "d")
					}
				})
				b.check(t, "", "c", "d", "h")
				x.goThrough(t, whole, nothing)
			})
		}
	}
}

// TestTwoChanges in the same step or in two of them.
func TestTwoChanges(t *testing.T) {
	for _, first := range changes() {
		for _, second := range changes() {
			for _, at := range [][2]int{{0, 0}, {0, 1}, {0, 4}, {1, 2}, {2, 4}, {3, 4}} {
				for _, i := range []int{0, 3, 4} {
					b := filled(t, 6)
					x := runsOf(b)[i]
					x.goThrough(t, whole, func(step int) {
						if step == at[0] {
							first(t, b)
						}
						if step == at[1] {
							second(t, b)
						}
					})
					x.goThrough(t, whole, nothing)
					b.check(t, "c")
				}
			}
		}
	}
}

// TestChangesInEveryStep, drawn ones.
func TestChangesInEveryStep(t *testing.T) {
	r := rand.New(rand.NewSource(2))
	list := changes()
	for range 200 {
		everyRun(t, func(b *both[int], x run) {
			for range 3 {
				x.goThrough(t, whole, func(int) { list[r.Intn(len(list))](t, b) })
			}
			b.check(t, "c", "e")
		})
	}
}

// TestChangesAheadAndBetween: an iterator yields what the table holds when the going through begins, not when it was made.
func TestChangesAheadAndBetween(t *testing.T) {
	for _, first := range changes() {
		for _, second := range changes() {
			everyRun(t, func(b *both[int], x run) {
				first(t, b)
				x.goThrough(t, whole, nothing)
				second(t, b)
				x.goThrough(t, whole, nothing)
				x.goThrough(t, whole, nothing)
			})
		}
	}
}

// TestIteratorsOfAnEmptyTable, which fills later, and is empty once more.
func TestIteratorsOfAnEmptyTable(t *testing.T) {
	b := bothOf[int](40)
	list := runsOf(b)
	for round := range 3 {
		for _, x := range list {
			x.goThrough(t, whole, nothing)
		}
		for i := range 40 {
			b.put(t, fmt.Sprint(string("abcfh"[i%5]), i), round)
			list[i%len(list)].goThrough(t, whole, nothing)
		}
		for _, x := range list {
			x.goThrough(t, whole, func(int) { removeAll(t, b) })
		}
	}
}

// TestDeleteEachInItsStep: what is yielded may be deleted at once, and an older going through still has all.
func TestDeleteEachInItsStep(t *testing.T) {
	everyRun(t, func(b *both[int], x run) {
		gone := x.want()
		x.goThrough(t, whole, func(step int) { b.remove(t, gone[step].key) })
		x.goThrough(t, whole, func(int) { t.Error("P12.6: a deleted key is yielded") })
		b.check(t)
	})
}
