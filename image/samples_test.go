package image_test

import (
	"fmt"
	"math"
	"math/rand"
	"slices"
	"strings"
	"testing"

	"turnstile/api"
)

func flow(gap, slack uint64) api.Policy  { return api.Policy{Kind: api.Flow, Gap: gap, Slack: slack} }
func grid(limit, span uint64) api.Policy { return api.Policy{Kind: api.Grid, Limit: limit, Span: span} }
func tat(x uint64) api.Level             { return api.Level{Tat: x} }
func used(index, count uint64) api.Level { return api.Level{Index: index, Count: count} }

func entry(key string, p api.Policy, v api.Level) api.Entry {
	return api.Entry{Key: key, Policy: p, Level: v}
}

func stateOf(lsn, floor uint64, keys ...api.Entry) api.State {
	return api.State{Lsn: lsn, Floor: floor, Keys: keys}
}

// with is s with e in the place of one of its keys.
func with(s api.State, at int, e api.Entry) api.State {
	s.Keys = slices.Clone(s.Keys)
	s.Keys[at] = e
	return s
}

// risingKeys are keys of 1 to 64 bytes in their order: ones that begin alike, and ones with any bytes in them.
func risingKeys() []string {
	return []string{"\x00", "\x00\x00", strings.Repeat("\x00", 64), "\x00\x01", "A", "TI01", "a", "a\x00", "a\x00b", "a\x01", "aa", "ab", "b",
		strings.Repeat("k", 63), strings.Repeat("k", 64), "k~", "\x7f", "\x80", "\xc3", "\xc3\xb6", "\xff", "\xff\x00", strings.Repeat("\xff", 64)}
}

// otherKeys are texts that are no keys; some would be ones if their length were cut to a byte.
func otherKeys() []string {
	return []string{"", strings.Repeat("\x00", 65), strings.Repeat("k", 65), strings.Repeat("ö", 33), strings.Repeat("k", 255), strings.Repeat("k", 256),
		strings.Repeat("k", 257), strings.Repeat("k", 320), strings.Repeat("\xff", 65), strings.Repeat("k", 65535)}
}

// ends are numbers at the ends, of unlike bytes, and ones that would be small if they were cut.
func ends() []uint64 {
	return []uint64{0, 1, 255, 256, 1 << 32, 0x0102030405060708, 1 << 63, m - 1, m}
}

// abc has keys of both rules, and one of a level of nothing.
func abc() api.State {
	return stateOf(7, 50, entry("a", flow(10, 20), tat(30)), entry("bb", grid(3, 100), used(2, 5)), entry("c", flow(1, 0), api.Level{}))
}

// allKeys has every key of risingKeys, of both rules by turns, its numbers all unlike.
func allKeys() api.State {
	s := stateOf(0x1112131415161718, 0x2122232425262728)
	for i, key := range risingKeys() {
		x := uint64(i+1) * 0x0101010101010101
		if i%2 == 0 {
			s.Keys = append(s.Keys, entry(key, flow(x, x+1), tat(x+2)))
		} else {
			s.Keys = append(s.Keys, entry(key, grid(x, x+1), used(x+2, x+3)))
		}
	}
	return s
}

// manyKeys is so many keys in their order, some of a Flow and some of a Grid.
func manyKeys(count int) []api.Entry {
	var list []api.Entry
	for i := range count {
		key := fmt.Sprintf("key %06d", i)
		if i%3 == 0 {
			list = append(list, entry(key, grid(3, 100), used(uint64(i), 2)))
		} else {
			list = append(list, entry(key, flow(10, uint64(i)), tat(uint64(i))))
		}
	}
	return list
}

// widest is the state that has the most bytes, and narrowest the one with MaxKeys keys that has the fewest.
func widest() api.State {
	s := stateOf(last, m)
	for i := range full {
		s.Keys = append(s.Keys, entry(fmt.Sprintf("%064x", i), grid(m, m), used(m, m)))
	}
	return s
}

func narrowest() api.State {
	s := stateOf(0, 0)
	for first := range 256 {
		s.Keys = append(s.Keys, entry(string([]byte{byte(first)}), flow(1, 0), api.Level{}))
		for second := range 256 {
			if first < 15 {
				s.Keys = append(s.Keys, entry(string([]byte{byte(first), byte(second)}), flow(1, 0), api.Level{}))
			}
		}
	}
	return s
}

// smallStates are valid ones with few keys, with the numbers at their ends.
func smallStates() []api.State {
	list := []api.State{{}, {Keys: []api.Entry{}}, abc(), allKeys(), stateOf(0, 0, abc().Keys...), stateOf(7, 100, entry("k", flow(10, 30), tat(140))),
		stateOf(3, 3, entry(strings.Repeat("k", 64), grid(0, 1), used(0, m)))}
	for _, lsn := range []uint64{1, 0x0102030405060708, last - 1, last} {
		for _, floor := range ends() {
			list = append(list, stateOf(lsn, floor), stateOf(lsn, floor, entry("a", flow(m, m), tat(m))), stateOf(lsn, floor, abc().Keys...))
		}
	}
	return list
}

func fullStates() []api.State {
	return []api.State{stateOf(9, 5, manyKeys(full)...), stateOf(last, m, manyKeys(full-1)...), widest(), narrowest()}
}

// badPolicies are ones in which one thing is amiss, or several.
func badPolicies() []api.Policy {
	list := []api.Policy{{}, flow(0, 0), flow(0, 20), flow(0, m), grid(0, 0), grid(3, 0), grid(m, 0)}
	for _, x := range []uint64{1, 256, 1 << 32, m} {
		list = append(list, api.Policy{Kind: api.Flow, Gap: 10, Limit: x}, api.Policy{Kind: api.Flow, Gap: 10, Span: x},
			api.Policy{Kind: api.Grid, Span: 10, Gap: x}, api.Policy{Kind: api.Grid, Span: 10, Slack: x})
	}
	for _, kind := range []int{math.MinInt, -255, -1, 0, 3, 257, 258, 1<<32 + 1, math.MaxInt} {
		list = append(list, api.Policy{Kind: kind, Gap: 10, Slack: 3}, api.Policy{Kind: kind, Limit: 3, Span: 10}, api.Policy{Kind: kind})
	}
	return list
}

// fallingRows are rows of keys that don't rise.
func fallingRows() [][]string {
	return [][]string{{"a", "a"}, {"b", "a"}, {"a", "a", "b"}, {"a", "b", "b"}, {"a", "c", "b"}, {"b", "a", "c"}, {"c", "b", "a"},
		{"a", "b", "c", "a"}, {"aa", "a"}, {"a\x00", "a"}, {"\x80", "\x7f"}, {"\xff", "a"}, {"k~", strings.Repeat("k", 64)}, {"b", "ab"}}
}

func ofKeys(keys ...string) api.State {
	s := stateOf(7, 5)
	for i, key := range keys {
		if i%2 == 0 {
			s.Keys = append(s.Keys, entry(key, flow(1, 1), tat(1)))
		} else {
			s.Keys = append(s.Keys, entry(key, grid(1, 1), used(1, 1)))
		}
	}
	return s
}

// wrongStates are ones that aren't valid, each with one fault.
func wrongStates() []api.State {
	list := []api.State{stateOf(0, 0, manyKeys(full+1)...), stateOf(5, 5, manyKeys(2*full)...)}
	for _, lsn := range []uint64{last + 1, 1 << 63, m} {
		list = append(list, stateOf(lsn, 0), stateOf(lsn, m, abc().Keys...))
	}
	for _, row := range fallingRows() {
		list = append(list, ofKeys(row...))
	}
	for at, e := range abc().Keys {
		for _, key := range otherKeys() {
			list = append(list, with(abc(), at, entry(key, e.Policy, e.Level)))
		}
		for _, p := range badPolicies() {
			list = append(list, with(abc(), at, entry(e.Key, p, api.Level{})))
		}
		for _, x := range []uint64{1, 256, 1 << 32, m} {
			list = append(list, with(abc(), at, entry(e.Key, grid(3, 10), tat(x))), with(abc(), at, entry(e.Key, flow(3, 10), used(x, 0))),
				with(abc(), at, entry(e.Key, flow(3, 10), used(0, x))), with(abc(), at, entry(e.Key, flow(3, 10), api.Level{Tat: x, Index: x, Count: x})))
		}
	}
	return list
}

// anyNumber is of any length in bits, from either end.
func anyNumber(r *rand.Rand) uint64 {
	x := r.Uint64() >> r.Intn(65)
	if r.Intn(4) == 0 {
		return m - x
	}
	return x
}

// anyKey is a short text over few bytes, so that keys meet and begin alike; now and then one of any length, which may be no key.
func anyKey(r *rand.Rand) string {
	length := 1 + r.Intn(3)
	if r.Intn(20) == 0 {
		length = r.Intn(68)
	}
	key := make([]byte, length)
	for i := range key {
		key[i] = "\x00ab\xff"[r.Intn(4)]
	}
	return string(key)
}

func anyEntry(r *rand.Rand) api.Entry {
	if r.Intn(2) == 0 {
		return entry(anyKey(r), flow(max(anyNumber(r), 1), anyNumber(r)), tat(anyNumber(r)))
	}
	return entry(anyKey(r), grid(anyNumber(r), max(anyNumber(r), 1)), used(anyNumber(r), anyNumber(r)))
}

// drawnState is a valid one most of the time: its keys rise, but now and then one of them is none.
func drawnState(r *rand.Rand) api.State {
	s := stateOf(anyNumber(r)>>2, anyNumber(r))
	for range r.Intn(8) {
		s.Keys = append(s.Keys, anyEntry(r))
	}
	slices.SortFunc(s.Keys, func(a, b api.Entry) int { return strings.Compare(a.Key, b.Key) })
	s.Keys = slices.CompactFunc(s.Keys, func(a, b api.Entry) bool { return a.Key == b.Key })
	return s
}

// disturbed is s with one thing made another one, whichever; it may still be valid.
func disturbed(r *rand.Rand, s api.State) api.State {
	s.Keys = slices.Clone(s.Keys)
	kind := r.Intn(8)
	if kind == 0 || len(s.Keys) == 0 {
		s.Lsn = anyNumber(r)
		return s
	}
	e := &s.Keys[r.Intn(len(s.Keys))]
	other := &s.Keys[r.Intn(len(s.Keys))]
	fields := []*uint64{&e.Policy.Gap, &e.Policy.Slack, &e.Policy.Limit, &e.Policy.Span, &e.Level.Tat, &e.Level.Index, &e.Level.Count}
	switch kind {
	case 1, 2, 3:
		*fields[r.Intn(len(fields))] = anyNumber(r)
	case 4:
		e.Policy.Kind = r.Intn(5) - 1
	case 5:
		e.Key = anyKey(r)
	case 6:
		e.Key = other.Key
	case 7:
		*e, *other = *other, *e
	}
	return s
}

// TestSamplesAreOfAllKinds holds the samples to what the other tests need of them.
func TestSamplesAreOfAllKinds(t *testing.T) {
	for _, s := range append(smallStates(), fullStates()...) {
		if !plainValid(s) {
			t.Errorf("%s isn't valid", tell(s))
		}
	}
	for _, s := range wrongStates() {
		if plainValid(s) {
			t.Errorf("%s is valid", tell(s))
		}
	}
	if have, want := len(laidState(widest())), 28+full*99; have != want {
		t.Errorf("the widest state has %d bytes, want %d", have, want)
	}
	if have, want := len(laidState(narrowest())), 28+256*28+15*256*29; have != want {
		t.Errorf("the narrowest full state has %d bytes, want %d", have, want)
	}
}
