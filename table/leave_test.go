package table_test

import (
	"iter"
	"slices"
	"testing"

	"turnstile/table"
)

// TestLeftEarly: behind each number of steps, with a change in the last one; the next going through is whole all the same.
func TestLeftEarly(t *testing.T) {
	for _, c := range changes() {
		for most := range 7 {
			everyRun(t, func(b *both[int], x run) {
				x.goThrough(t, most, func(step int) {
					if step == most-1 {
						c(t, b)
					}
				})
				b.check(t, "c")
				x.goThrough(t, whole, nothing)
				x.goThrough(t, most, nothing)
				x.goThrough(t, whole, nothing)
			})
		}
	}
}

// TestNothingBehindTheEnd: whoever says false is not called once more, wherever that is; whoever says true to the last is called once for each key.
func TestNothingBehindTheEnd(t *testing.T) {
	for most := 1; most < 7; most++ {
		everyRun(t, func(b *both[int], x run) {
			want := min(most, len(x.want()))
			calls := 0
			x.it(func(string, int) bool {
				calls++
				return calls < most
			})
			if calls != want {
				t.Errorf("P12.6: %s, left behind %d steps, has called %d times, want %d", x.name, most, calls, want)
			}
		})
	}
}

func firstAtLeast(it iter.Seq2[string, int], v int) string {
	for key, x := range it {
		if x >= v {
			return key
		}
	}
	return "none"
}

// countPairs goes through an iterator inside itself, and goes on with the outer one from within the inner one.
func countPairs(it iter.Seq2[string, int]) int {
	count := 0
outer:
	for a := range it {
		for b := range it {
			if b == "z" {
				break outer
			}
			if b > a {
				continue outer
			}
			count++
		}
	}
	return count
}

func panicsIn(it iter.Seq2[string, int]) (seen int) {
	defer func() { recover() }()
	for range it {
		seen++
		if seen == 2 {
			panic("left")
		}
	}
	return -1
}

// TestEveryWayOut: by return, by labels, by a panic in the loop's body.
func TestEveryWayOut(t *testing.T) {
	b := filled(t, 9)
	it := b.table.All()
	for v, want := range []string{"", "", "b", "b", "d", "none"} { // "" has 1, b 3, d 4, f 0, h 2
		if got := firstAtLeast(it, v); got != want {
			t.Errorf("P12.6: the first with a value from %d on is %q, want %q", v, got, want)
		}
	}
	if got := countPairs(it); got != 1+2+3+4+5 {
		t.Errorf("P12.6: %d pairs of five keys aren't falling, want 15", got)
	}
	b.put(t, "z", 6)
	if got := countPairs(it); got != 1+2+3+4+5 {
		t.Errorf("P12.6: %d pairs of five keys aren't falling, want 15 ahead of z", got)
	}
	if got := panicsIn(it); got != 2 {
		t.Errorf("P12.6: left by a panic behind %d steps", got)
	}
	b.check(t, "d")
	same(t, "the same iterator behind all that", it, b.plain.all())
}

// TestInsideEachOther: each going through has what the table held when it began, however deep it stands.
func TestInsideEachOther(t *testing.T) {
	list := changes()
	for i := range runsOf(filled(t, 6)) {
		for j := range runsOf(filled(t, 6)) {
			for k, c := range list {
				b := filled(t, 6)
				outer, inner := runsOf(b)[i], runsOf(b)[j]
				outer.goThrough(t, whole, func(step int) {
					if step == 1 {
						c(t, b)
					}
					inner.goThrough(t, 3+k%3, func(deep int) {
						if step == 2 && deep == 1 {
							list[(k+7)%len(list)](t, b)
						}
						inner.goThrough(t, whole, nothing)
					})
					outer.goThrough(t, whole, nothing)
				})
				b.check(t, "c")
			}
		}
	}
}

// TestByTurns: goings through that aren't inside each other, but go on by turns with changes between their steps; they begin with their first steps.
func TestByTurns(t *testing.T) {
	list := changes()
	for k, c := range list {
		b := filled(t, 7)
		x, y, z := allOf(b), fromOf(b, "c"), allOf(b)
		nextX, stopX := iter.Pull2(x.it)
		nextY, stopY := iter.Pull2(y.it)
		nextZ, stopZ := iter.Pull2(z.it)
		want := x.want()
		expectNext(t, x.name, nextX, want, 0)
		c(t, b)
		later := y.want()
		expectNext(t, y.name, nextY, later, 0)
		list[(k+5)%len(list)](t, b)
		for i := 1; i < 7; i++ {
			expectNext(t, x.name, nextX, want, i)
			expectNext(t, y.name, nextY, later, i)
			list[(k+i)%len(list)](t, b)
		}
		last := z.want()
		expectNext(t, z.name, nextZ, last, 0)
		removeAll(t, b)
		expectNext(t, z.name, nextZ, last, 1)
		stopX()
		stopY()
		stopZ()
		b.check(t, "c")
	}
}

func expectNext(t *testing.T, name string, next func() (string, int, bool), want []pair[int], i int) {
	t.Helper()
	key, v, ok := next()
	if ok != (i < len(want)) || ok && want[i] != (pair[int]{key, v}) {
		t.Fatalf("P12.6: step %d of %s is %q %d, %v, want one of %v", i, name, key, v, ok, told(want))
	}
}

// TestManyIterators of one table, made at different times, are all alike.
func TestManyIterators(t *testing.T) {
	m := table.New[int](100)
	var list []iter.Seq2[string, int]
	var want []pair[int]
	for i := range 100 {
		list = append(list, m.All(), m.From(""), m.From("\x00"))
		key := string([]byte{byte(i + 1)})
		m.Put(key, i)
		want = append(want, pair[int]{key, i})
	}
	for i, it := range list {
		if got := collect(it); !slices.Equal(got, want) {
			t.Fatalf("P12.6: iterator %d yields %v", i, told(got))
		}
	}
}
