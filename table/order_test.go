package table_test

import (
	"fmt"
	"math/rand"
	"slices"
	"testing"

	"turnstile/table"
)

// TestEdgeKeys puts them in many orders, and asks From of each of them and of its neighbours, while all are there and while some are not.
func TestEdgeKeys(t *testing.T) {
	keys := edgeKeys()
	var probes []string
	for _, key := range keys {
		probes = append(probes, around(key)...)
	}
	r := rand.New(rand.NewSource(1))
	for round := range 12 {
		b := bothOf[int](len(keys))
		for _, i := range r.Perm(len(keys)) {
			b.put(t, keys[i], i)
		}
		b.check(t, probes...)
		for i, p := range collect(b.table.All()) {
			if p.key != keys[i] || p.value != i {
				t.Fatalf("P12.6: in round %d All yields %q %d at place %d", round, p.key, p.value, i)
			}
		}
		for _, i := range r.Perm(len(keys))[:len(keys)/2] {
			b.remove(t, keys[i])
		}
		b.check(t, probes...)
	}
}

// TestEveryTwoKeys: of any two keys the one that is ahead comes first, whichever was put first, and From of the other yields that one alone.
func TestEveryTwoKeys(t *testing.T) {
	keys := edgeKeys()
	for i, first := range keys {
		for j, second := range keys {
			if i == j {
				continue
			}
			m := table.New[int](2)
			if !m.Put(first, 1) || !m.Put(second, 2) || m.Len() != 2 {
				t.Fatalf("P12.3: %q and %q aren't two keys", first, second)
			}
			want := []pair[int]{{first, 1}, {second, 2}}
			if i > j {
				slices.Reverse(want)
			}
			same(t, "All of two", m.All(), want)
			same(t, fmt.Sprintf("From(%q)", want[0].key), m.From(want[0].key), want)
			same(t, fmt.Sprintf("From(%q)", want[1].key), m.From(want[1].key), want[1:])
			same(t, "From behind both", m.From(want[1].key+"\x00"), nil)
		}
	}
}

// TestEveryByte: keys of each byte, alone and behind another one.
func TestEveryByte(t *testing.T) {
	for _, begin := range []string{"", "a", "\xff", "\x00\x00"} {
		b := bothOf[int](256)
		for i := range 256 {
			x := byte(i * 37)
			b.put(t, begin+string([]byte{x}), int(x))
		}
		b.check(t, "", begin, begin+"\x00", begin+"\x7f\xff", begin+"\x80", begin+"\xff", begin+"\xff\x00")
		next := 0
		for _, v := range b.table.All() {
			if v != next {
				t.Fatalf("P12.6: behind %q byte %d stands at the place of byte %d", begin, v, next)
			}
			next++
		}
	}
}

// orderings: ways in which n keys may come one behind the other.
func orderings(n int) map[string][]int {
	rising, falling, outward, inward := make([]int, n), make([]int, n), make([]int, n), make([]int, n)
	for i := range n {
		rising[i], falling[i] = i, n-1-i
		inward[i] = i / 2
		if i%2 == 1 {
			inward[i] = n - 1 - i/2
		}
		outward[n-1-i] = inward[i]
	}
	return map[string][]int{
		"rising": rising, "falling": falling, "from both ends inward": inward, "from the midst outward": outward,
		"drawn": rand.New(rand.NewSource(int64(n))).Perm(n),
	}
}

// TestOrderings: the way in which keys come and go isn't seen in what a table answers.
func TestOrderings(t *testing.T) {
	for _, n := range []int{10, 100, 333} {
		name := func(i int) string { return fmt.Sprintf("%05d", i) }
		for how, in := range orderings(n) {
			for _, out := range orderings(n) {
				b := bothOf[int](n)
				for _, i := range in {
					b.put(t, name(i), i)
				}
				b.check(t, "", name(n/2), name(n))
				for done, i := range out {
					b.remove(t, name(i))
					if done%(1+n/8) == 0 {
						b.check(t, "", name(i), name(n/2), name(n/2)+"0")
					}
				}
				b.check(t, "")
				if t.Failed() {
					t.Fatalf("with %d keys put %s", n, how)
				}
			}
		}
	}
}

// TestManyKeys would take far too long if a Put, a Delete, a Get or the first step of an iterator went through all keys.
func TestManyKeys(t *testing.T) {
	const n = 150000
	name := func(i int) string { return fmt.Sprintf("%06d", i) }
	for how, in := range orderings(n) {
		m := table.New[int](n)
		for _, i := range in {
			if !m.Put(name(i), i) {
				t.Fatalf("P12.3: no room for key %d, %s", i, how)
			}
		}
		for _, i := range in {
			if v, ok := m.Get(name(i)); v != i || !ok {
				t.Fatalf("P12.2: Get(%q) is %d, %v, %s", name(i), v, ok, how)
			}
			for key, v := range m.From(name(i) + "\x00") {
				if v != i+1 || key != name(v) {
					t.Fatalf("P12.6: behind key %d comes %q %d, %s", i, key, v, how)
				}
				break
			}
		}
		next := 0
		for _, v := range m.All() {
			if v != next {
				t.Fatalf("P12.6: %d stands at the place of %d, %s", v, next, how)
			}
			next++
		}
		for left, i := range in {
			if !m.Delete(name(i)) || m.Len() != n-left-1 {
				t.Fatalf("P12.4: Delete of key %d, %s; Len is %d", i, how, m.Len())
			}
		}
		same(t, "All of an emptied table", m.All(), nil)
	}
}
