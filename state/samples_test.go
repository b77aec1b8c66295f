package state_test

import (
	"fmt"
	"math"
	"math/rand"
	"slices"
	"strings"
	"testing"

	"turnstile/api"
)

func flow(gap, slack uint64) api.Policy  { return api.Policy{Kind: api.Flow, Gap: gap, Slack: slack} }
func grid(limit, span uint64) api.Policy { return api.Policy{Kind: api.Grid, Limit: limit, Span: span} }
func tat(x uint64) api.Level             { return api.Level{Tat: x} }
func used(index, count uint64) api.Level { return api.Level{Index: index, Count: count} }

func define(floor uint64, key string, p api.Policy) api.Record {
	return api.Record{Kind: api.RecDefine, Floor: floor, Key: key, Policy: p}
}

func remove(floor uint64, key string) api.Record {
	return api.Record{Kind: api.RecDelete, Floor: floor, Key: key}
}

func ceiling(floor uint64, key string, v api.Level) api.Record {
	return api.Record{Kind: api.RecCeiling, Floor: floor, Key: key, Level: v}
}

func entry(key string, p api.Policy, v api.Level) api.Entry {
	return api.Entry{Key: key, Policy: p, Level: v}
}

func stateOf(lsn, floor uint64, keys ...api.Entry) api.State {
	return api.State{Lsn: lsn, Floor: floor, Keys: keys}
}

// with is s with e in the place of one of its keys.
func with(s api.State, at int, e api.Entry) api.State {
	s.Keys = slices.Clone(s.Keys)
	s.Keys[at] = e
	return s
}

// risingKeys are keys of 1 to 64 bytes in their order: ones that begin alike, ones with any bytes in them, ones that differ in the last byte alone.
func risingKeys() []string {
	return []string{"\x00", "\x00\x00", strings.Repeat("\x00", 63), strings.Repeat("\x00", 64), "\x00\x01", "\x01", "A", "Z", "a", "a\x00",
		"a\x00b", "a\x01", "aa", "ab", "abc", "ac", "b", strings.Repeat("k", 63) + "\x00", strings.Repeat("k", 63) + "j",
		strings.Repeat("k", 64), "k~", "\x7f", "\x80", "\xc3", "\xc3\xb6", "\xff", "\xff\x00", strings.Repeat("\xff", 64)}
}

// otherKeys are texts that are no keys, in their order.
func otherKeys() []string {
	return []string{"", strings.Repeat("\x00", 65), strings.Repeat("k", 65), strings.Repeat("k", 320), strings.Repeat("\xff", 65)}
}

func goodPolicies() []api.Policy {
	var list []api.Policy
	for _, x := range []uint64{1, 10, 1 << 63, m} {
		for _, y := range []uint64{0, 1, 3, m} {
			list = append(list, flow(x, y), grid(y, x))
		}
	}
	return list
}

// badPolicies are ones in which one thing is amiss, or several.
func badPolicies() []api.Policy {
	list := []api.Policy{{}, flow(0, 0), flow(0, 20), flow(0, m), grid(0, 0), grid(3, 0), grid(m, 0)}
	for _, x := range []uint64{1, 256, 1 << 32, m} {
		list = append(list, api.Policy{Kind: api.Flow, Gap: 10, Limit: x}, api.Policy{Kind: api.Flow, Gap: 10, Span: x},
			api.Policy{Kind: api.Grid, Span: 10, Gap: x}, api.Policy{Kind: api.Grid, Span: 10, Slack: x})
	}
	for _, kind := range []int{math.MinInt, -1, 0, 3, 257, 258, 1<<32 + 1, math.MaxInt} {
		list = append(list, api.Policy{Kind: kind, Gap: 10, Slack: 3}, api.Policy{Kind: kind, Limit: 3, Span: 10})
	}
	return list
}

// levels are of both rules, of neither and of all fields.
func levels() []api.Level {
	var list []api.Level
	for _, x := range []uint64{0, 1, 30, m} {
		for _, y := range []uint64{0, 1, 2, m} {
			for _, z := range []uint64{0, 5, m} {
				list = append(list, api.Level{Tat: x, Index: y, Count: z})
			}
		}
	}
	return list
}

// manyKeys is so many keys in their order, some of a Flow and some of a Grid.
func manyKeys(count int) []api.Entry {
	var list []api.Entry
	for i := range count {
		key := fmt.Sprintf("key %06d", i)
		if i%3 == 0 {
			list = append(list, entry(key, grid(3, 100), used(uint64(i), 2)))
		} else {
			list = append(list, entry(key, flow(10, uint64(i)), tat(uint64(i))))
		}
	}
	return list
}

// between is a text that stands just behind the key of manyKeys with this number.
func between(number int) string { return fmt.Sprintf("key %06d+", number) }

// abc has three keys of which the texts from "" to "d" tell every place.
func abc() api.State {
	return stateOf(7, 50, entry("a", flow(10, 20), tat(30)), entry("b", grid(3, 100), used(2, 5)), entry("c", flow(1, 0), api.Level{}))
}

// allKeys has every key of risingKeys.
func allKeys() api.State {
	s := api.State{Lsn: 28, Floor: 9}
	for i, key := range risingKeys() {
		if i%2 == 0 {
			s.Keys = append(s.Keys, entry(key, flow(10, uint64(i)), tat(uint64(i)*7)))
		} else {
			s.Keys = append(s.Keys, entry(key, grid(uint64(i), 100), used(uint64(i), 5)))
		}
	}
	return s
}

// smallStates are valid ones with few keys, with the numbers at their ends.
func smallStates() []api.State {
	list := []api.State{{}, {Keys: []api.Entry{}}, abc(), allKeys(), stateOf(0, 0, abc().Keys...), stateOf(0, m, abc().Keys[:2]...),
		stateOf(3, 3, entry(strings.Repeat("k", 64), grid(0, 1), used(0, m)))}
	for _, lsn := range []uint64{1, 2, 1 << 32, last - 1, last} {
		for _, floor := range []uint64{0, 1, 1 << 63, m} {
			list = append(list, stateOf(lsn, floor), stateOf(lsn, floor, entry("a", flow(10, 20), tat(m))), stateOf(lsn, floor, abc().Keys...))
		}
	}
	return list
}

// fullStates have MaxKeys keys, or one less.
func fullStates() []api.State {
	return []api.State{stateOf(9, 5, manyKeys(full)...), stateOf(last-1, m, manyKeys(full)...), stateOf(9, 5, manyKeys(full-1)...)}
}

// wrongStates are ones that aren't valid, each with one fault.
func wrongStates() []api.State {
	list := []api.State{stateOf(last+1, 0), stateOf(last+1, 0, abc().Keys...), stateOf(1<<63, 5), stateOf(m, 0), stateOf(m, m, abc().Keys...),
		stateOf(0, 0, manyKeys(full+1)...), stateOf(5, 5, manyKeys(2*full)...)}
	for at, e := range abc().Keys {
		for _, key := range otherKeys() {
			list = append(list, with(abc(), at, entry(key, e.Policy, e.Level)))
		}
		for _, p := range badPolicies() {
			list = append(list, with(abc(), at, entry(e.Key, p, api.Level{})))
		}
		for _, v := range levels() {
			if !plainFits(e.Policy, v) {
				list = append(list, with(abc(), at, entry(e.Key, e.Policy, v)))
			}
		}
	}
	for _, keys := range [][]int{{0, 0}, {1, 0}, {0, 0, 1}, {0, 1, 1}, {0, 2, 1}, {1, 0, 2}, {2, 1, 0}, {0, 1, 2, 0}} {
		s := api.State{Lsn: 7}
		for _, i := range keys {
			s.Keys = append(s.Keys, abc().Keys[i])
		}
		list = append(list, s)
	}
	return list
}

// goodRecords are of all kinds about these keys; whether a state takes them is another thing.
func goodRecords(keys []string) []api.Record {
	var list []api.Record
	floors := []uint64{0, 49, 50, 51, m}
	for i, key := range keys {
		floor := floors[i%len(floors)]
		list = append(list, remove(floor, key), define(floor, key, flow(10, 0)), define(floor, key, grid(0, 1)), ceiling(floor, key, api.Level{}))
		for _, v := range []api.Level{tat(29), tat(30), tat(31), tat(m), used(2, 4), used(2, 5), used(2, 6), used(1, m), used(3, 0), used(0, 1)} {
			list = append(list, ceiling(floor, key, v))
		}
	}
	return list
}

// badRecords are none, for each reason that layer 11 names.
func badRecords() []api.Record {
	list := []api.Record{{}}
	for _, key := range otherKeys() {
		list = append(list, remove(5, key), define(5, key, flow(10, 0)), ceiling(5, key, tat(99)))
	}
	for _, kind := range []int{math.MinInt, -1, 0, 4, 257, 258, 1<<32 + 2, math.MaxInt} {
		list = append(list, api.Record{Kind: kind, Key: "a"}, api.Record{Kind: kind, Key: "d", Policy: flow(10, 0)}, api.Record{Kind: kind, Key: "a", Level: tat(99)})
	}
	for _, p := range badPolicies() {
		list = append(list, define(5, "d", p))
	}
	for _, key := range []string{"a", "b", "d"} {
		list = append(list, api.Record{Kind: api.RecDefine, Key: key, Policy: flow(10, 0), Level: tat(1)},
			api.Record{Kind: api.RecDefine, Key: key, Policy: grid(3, 10), Level: used(0, 1)},
			api.Record{Kind: api.RecDelete, Key: key, Policy: flow(10, 0)}, api.Record{Kind: api.RecDelete, Key: key, Level: used(1, 0)},
			api.Record{Kind: api.RecCeiling, Key: key, Policy: flow(10, 0), Level: tat(99)},
			api.Record{Kind: api.RecCeiling, Key: key, Policy: api.Policy{Slack: 1}, Level: used(99, 1)},
			api.Record{Kind: api.RecCeiling, Key: key, Level: api.Level{Tat: 99, Index: 99}},
			api.Record{Kind: api.RecCeiling, Key: key, Level: api.Level{Tat: 99, Count: 1}})
	}
	return list
}

// anyNumber is of any length in bits, from either end.
func anyNumber(r *rand.Rand) uint64 {
	x := r.Uint64() >> r.Intn(65)
	if r.Intn(4) == 0 {
		return m - x
	}
	return x
}

// anyKey is a short text over few bytes, so that keys meet and begin alike; now and then one of any length, which may be no key.
func anyKey(r *rand.Rand) string {
	length := 1 + r.Intn(2)
	if r.Intn(50) == 0 {
		length = r.Intn(70)
	}
	var key strings.Builder
	for range length {
		key.WriteByte("\x00ab\xff"[r.Intn(4)])
	}
	return key.String()
}

func anyPolicy(r *rand.Rand) api.Policy {
	if r.Intn(2) == 0 {
		return flow(max(anyNumber(r), 1), anyNumber(r))
	}
	return grid(anyNumber(r), max(anyNumber(r), 1))
}

// smallLevel is of a Flow or of a Grid, of numbers that meet.
func smallLevel(r *rand.Rand) api.Level {
	if r.Intn(2) == 0 {
		return tat(uint64(r.Intn(40)))
	}
	return used(uint64(r.Intn(4)), uint64(r.Intn(5)))
}

func TestSamplesAreOfAllKinds(t *testing.T) {
	if !slices.IsSortedFunc(risingKeys(), func(a, b string) int {
		if ahead(a, b) {
			return -1
		}
		return 1
	}) {
		t.Error("the rising keys don't rise")
	}
	for _, s := range append(smallStates(), fullStates()...) {
		if !plainValid(s) {
			t.Errorf("%s isn't valid", tell(s))
		}
	}
	for _, s := range wrongStates() {
		if plainValid(s) {
			t.Errorf("%s is valid", tell(s))
		}
	}
	for _, r := range goodRecords(risingKeys()) {
		if !plainRecord(r) {
			t.Errorf("%s is no record", tellRecord(r))
		}
	}
	for _, r := range badRecords() {
		if plainRecord(r) {
			t.Errorf("%s is a record", tellRecord(r))
		}
	}
}
