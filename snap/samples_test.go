package snap_test

import (
	"encoding/binary"
	"fmt"
	"hash/crc32"
	"slices"
	"strings"
	"testing"

	"turnstile/api"
	"turnstile/image"
	"turnstile/state"
)

const (
	m    = 1<<64 - 1
	last = 1 << 62 // the greatest number of a record
	full = 4096    // the most keys
)

func same(a, b api.State) bool {
	return a.Lsn == b.Lsn && a.Floor == b.Floor && slices.Equal(a.Keys, b.Keys)
}

func flow(key string, gap, slack, tat uint64) api.Entry {
	return api.Entry{Key: key, Policy: api.Policy{Kind: api.Flow, Gap: gap, Slack: slack}, Level: api.Level{Tat: tat}}
}

func grid(key string, limit, span, index, count uint64) api.Entry {
	return api.Entry{Key: key, Policy: api.Policy{Kind: api.Grid, Limit: limit, Span: span}, Level: api.Level{Index: index, Count: count}}
}

func stateOf(lsn, floor uint64, keys ...api.Entry) api.State {
	return api.State{Lsn: lsn, Floor: floor, Keys: keys}
}

// at is a short state with this number.
func at(lsn uint64) api.State { return stateOf(lsn, lsn/2, flow("k", 3, 5, lsn)) }

// other is a state with the number that s has, but another one.
func other(s api.State) api.State { return stateOf(s.Lsn, s.Floor+1, grid("other", 3, 100, 2, 1)) }

// sized is a state with this number whose bytes are so many, from 56 up to some thousands.
func sized(lsn uint64, size int) api.State {
	s := stateOf(lsn, 7)
	for rest := size - 28; rest > 0; {
		take := min(rest, 91) // 27 bytes, and the key's
		if behind := rest - take; behind > 0 && behind < 28 {
			take -= 28
		}
		key := string([]byte{byte('0' + len(s.Keys))}) + strings.Repeat("k", take-28)
		s.Keys = append(s.Keys, flow(key, 10, 20, uint64(size)))
		rest -= take
	}
	return s
}

func manyKeys(count int) []api.Entry {
	var list []api.Entry
	for i := range count {
		if i%3 == 0 {
			list = append(list, grid(fmt.Sprintf("key %06d", i), 3, 100, uint64(i), 2))
		} else {
			list = append(list, flow(fmt.Sprintf("key %06d", i), 10, uint64(i), uint64(i)))
		}
	}
	return list
}

// smallStates are of few sectors, with their numbers at the ends and between them.
func smallStates() []api.State {
	return []api.State{{}, stateOf(0, m), stateOf(0, 5, flow("k", 1, 0, 0)), at(1), at(5), other(at(5)), at(255), at(last - 1), at(last), stateOf(last, m),
		stateOf(9, 5, flow("\x00", m, m, m), grid(strings.Repeat("\xff", 64), m, m, m, m)), sized(6, 511), sized(6, 512), sized(7, 513), sized(5, 1024), sized(9, 1025), sized(8, 1500)}
}

func fullStates() []api.State {
	return []api.State{stateOf(9, 5, manyKeys(full)...), stateOf(last, m, manyKeys(full-1)...)}
}

func allStates() []api.State { return append(smallStates(), fullStates()...) }

// wrongStates aren't valid, each in another way.
func wrongStates() []api.State {
	return []api.State{
		stateOf(last+1, 0), stateOf(m, 5, flow("k", 1, 1, 1)), stateOf(1<<63, 0),
		stateOf(5, 0, manyKeys(full+1)...),
		stateOf(5, 0, flow("a", 1, 0, 0), flow("a", 1, 0, 0)), stateOf(5, 0, flow("b", 1, 0, 0), flow("a", 1, 0, 0)),
		stateOf(5, 0, flow("", 1, 0, 0)), stateOf(5, 0, flow(strings.Repeat("k", 65), 1, 0, 0)),
		stateOf(5, 0, flow("a", 0, 3, 0)), stateOf(5, 0, grid("a", 3, 0, 0, 0)),
		stateOf(5, 0, api.Entry{Key: "a"}), stateOf(5, 0, api.Entry{Key: "a", Policy: api.Policy{Kind: 3, Gap: 1}}),
		stateOf(5, 0, api.Entry{Key: "a", Policy: api.Policy{Kind: -1, Gap: 1}}), stateOf(5, 0, api.Entry{Key: "a", Policy: api.Policy{Kind: 257, Gap: 1}}),
		stateOf(5, 0, api.Entry{Key: "a", Policy: api.Policy{Kind: api.Flow, Gap: 1, Span: 1}}),
		stateOf(5, 0, api.Entry{Key: "a", Policy: api.Policy{Kind: api.Flow, Gap: 1}, Level: api.Level{Count: 1}}),
		stateOf(5, 0, api.Entry{Key: "a", Policy: api.Policy{Kind: api.Grid, Span: 1}, Level: api.Level{Tat: 1}}),
	}
}

func bytesOf(t *testing.T, s api.State) []byte {
	t.Helper()
	b, err := image.Encode(s)
	if err != nil {
		t.Fatalf("Encode(%s): %v", tell(s), err)
	}
	return b
}

// fileOf is the good snapshot of s.
func fileOf(t *testing.T, s api.State) api.File {
	t.Helper()
	return api.File{Name: plainName(s.Lsn), Data: bytesOf(t, s)}
}

func named(f api.File, name string) api.File {
	f.Name = name
	return f
}

// resealed is new memory: b with the sum that fits in the place of its last four bytes.
func resealed(b []byte) []byte {
	ahead := slices.Clone(b[:len(b)-4])
	return binary.LittleEndian.AppendUint32(ahead, crc32.Checksum(ahead, crc32.MakeTable(crc32.Castagnoli)))
}

// changed is the bytes of s with another one at the place, and the sum that fits.
func changed(t *testing.T, s api.State, place int, to byte) []byte {
	t.Helper()
	b := bytesOf(t, s)
	b[place] = to
	return resealed(b)
}

// endsInZero is a state with so many bytes of which the last one is 0: if that one stands alone in its sector, the bytes are the same whether the sector can be read or not.
func endsInZero(t *testing.T, lsn uint64, size int) api.State {
	t.Helper()
	for floor := range uint64(100000) {
		s := sized(lsn, size)
		s.Floor = floor
		if b := bytesOf(t, s); b[size-1] == 0 {
			return s
		}
	}
	t.Fatalf("no state of %d bytes ends in 0", size)
	return api.State{}
}

// badFiles are snapshots of this number, 1 or more, that aren't good, each in another way.
func badFiles(t *testing.T, lsn uint64) []api.File {
	t.Helper()
	good := bytesOf(t, at(lsn))
	three := bytesOf(t, sized(lsn, 1400))
	list := []api.File{
		{Data: good, Bad: []int{0}},
		{Data: three, Bad: []int{0}}, {Data: three, Bad: []int{1}}, {Data: three, Bad: []int{2}}, {Data: three, Bad: []int{0, 1, 2}},
		{Data: bytesOf(t, endsInZero(t, lsn, 513)), Bad: []int{1}},
		{Data: bytesOf(t, endsInZero(t, lsn, 1025)), Bad: []int{2}},
		{},
		{Data: good[:1]}, {Data: good[:27]}, {Data: good[:len(good)-1]}, {Data: three[:512]}, {Data: three[:1024]},
		{Data: make([]byte, 28)}, {Data: make([]byte, 512)},
		{Data: changed(t, at(lsn), 0, 't')},
		{Data: append(slices.Clone(good), 0)}, {Data: append(slices.Clone(good), good...)},
		{Data: resealed(append(slices.Clone(good), 0))},
		{Data: changed(t, at(lsn), 20, 2)},                             // two keys, of which one is there
		{Data: changed(t, at(lsn), 20, 0)},                             // none, and bytes are left
		{Data: changed(t, at(lsn), 22, 1)},                             // more than MaxKeys
		{Data: changed(t, at(lsn), 27, 3)},                             // a policy of another kind
		{Data: changed(t, stateOf(lsn, 0, flow("k", 3, 0, 0)), 28, 0)}, // no gap: the state isn't valid
		{Data: changed(t, at(lsn), 11, 0x80)},                          // an Lsn above MaxLsn
		{Data: bytesOf(t, at(lsn-1))},
		{Data: bytesOf(t, stateOf(0, 0))},
	}
	if lsn < last {
		list = append(list, api.File{Data: bytesOf(t, at(lsn+1))})
	}
	turned := slices.Clone(good)
	turned[len(turned)-1] ^= 1
	list = append(list, api.File{Data: turned})
	for i := range list {
		list[i].Name = plainName(lsn)
	}
	return list
}

// otherNames are no snapshots' names, though some look like ones.
func otherNames() []string {
	return []string{"temp2", "tem", "Temp", "TEMP", "temp.", "tempo", "snap", "snap.", "snap.1", "snap.00000000000000FF", "snap.000000000000000A", "Snap.0000000000000009", "SNAP.0000000000000009",
		"snap.000000000000009", "snap.00000000000000009", "snap.0000000000000009.", "snap.0000000000000009 ", " snap.0000000000000009", "snap.000000000000000g", "snap.+000000000000009",
		"snap.-000000000000009", "snap.0x00000000000009", "snap.0_00000000000009", "snap,0000000000000009", "snap-0000000000000009", "log.0000000000000009", "log.0000000000000001", "a", "z", "\x00", "\xff",
		"snap.4000000000000001", "snap.8000000000000000", "snap.ffffffffffffffff", "snap.snap.0000000009", "0000000000000009", "snap.temp", "temp.0000000000000009", strings.Repeat("s", 64)}
}

// otherFiles hold good bytes of a state that would be the newest of all.
func otherFiles(t *testing.T) []api.File {
	t.Helper()
	var list []api.File
	for _, name := range otherNames() {
		list = append(list, named(fileOf(t, at(last)), name))
	}
	return list
}

// TestSamplesAreOfAllKinds holds the samples to what the other tests need of them.
func TestSamplesAreOfAllKinds(t *testing.T) {
	for _, s := range allStates() {
		if !state.Valid(s) {
			t.Errorf("%s isn't valid", tell(s))
		}
	}
	for _, s := range wrongStates() {
		if state.Valid(s) {
			t.Errorf("%s is valid", tell(s))
		}
	}
	for _, size := range []int{56, 100, 511, 512, 513, 1024, 1025, 1400, 1500} {
		if b := bytesOf(t, sized(3, size)); len(b) != size {
			t.Errorf("a state of %d bytes has %d", size, len(b))
		}
	}
	for _, lsn := range []uint64{1, 5, last} {
		decode := 0
		for _, f := range badFiles(t, lsn) {
			if _, good := plainGood(f); good {
				t.Errorf("%s is good", tellImage(api.Image{Files: []api.File{f}}))
			}
			seen := loaded(t, f).Seen().Files[0]
			if s, err := image.Decode(seen.Data); err == nil && s.Lsn == lsn {
				decode++
			}
		}
		if decode != 2 {
			t.Errorf("of %d files the bytes decode to the number %d, though a sector can't be read; want 2", decode, lsn)
		}
	}
	for _, name := range otherNames() {
		if _, ok := plainLsn(name); ok || name == "temp" {
			t.Errorf("%q is a snapshot's name", name)
		}
	}
}
