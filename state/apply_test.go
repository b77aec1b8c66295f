package state_test

import (
	"fmt"
	"strings"
	"testing"

	"turnstile/api"
	"turnstile/state"
)

// expectRefused: Apply answers this error and nothing else, and so does the plain reckoning.
func expectRefused(t *testing.T, what string, s api.State, lsn uint64, r api.Record, want error) {
	t.Helper()
	if have, err := state.Apply(s, lsn, r); err != want || !isNothing(have) {
		t.Errorf("P13.2: %s: Apply(%s, %d, %s) is %s, %v, want %v", what, tell(s), lsn, tellRecord(r), tell(have), err, want)
	}
	expectApply(t, s, lsn, r)
}

func expectTaken(t *testing.T, what string, s api.State, r api.Record, want api.State) {
	t.Helper()
	if have, err := state.Apply(s, s.Lsn+1, r); err != nil || !plainEqual(have, want) {
		t.Errorf("P13.2: %s: Apply(%s, %d, %s) is %s, %v, want %s", what, tell(s), s.Lsn+1, tellRecord(r), tell(have), err, tell(want))
	}
	expectApply(t, s, s.Lsn+1, r)
}

// numbers are the ones that a state might ask for, those next to it, and the ends.
func numbers(s api.State) []uint64 {
	return []uint64{s.Lsn + 1, s.Lsn, s.Lsn - 1, s.Lsn + 2, 0, 1, last, last + 1, m}
}

// TestEveryRecordInEveryState holds Apply against the plain reckoning: right and wrong states, records and numbers.
func TestEveryRecordInEveryState(t *testing.T) {
	records := append(goodRecords([]string{"a", "b", "c", "", "a\x00", "d", strings.Repeat("k", 64), strings.Repeat("k", 65)}), badRecords()...)
	answers := map[error]int{}
	for _, s := range append(smallStates(), wrongStates()...) {
		if len(s.Keys) > full {
			continue // those are in TestTheOrderOfErrors
		}
		for _, lsn := range numbers(s) {
			for _, r := range records {
				_, err := expectApply(t, s, lsn, r)
				answers[err]++
			}
		}
	}
	for _, err := range []error{nil, api.ErrArg, api.ErrGap, api.ErrLog} {
		if answers[err] < 500 {
			t.Errorf("%d answers were %v: too few", answers[err], err)
		}
	}
}

// TestDefineAtEveryPlace: a key ahead of the first, behind the last, and between any two.
func TestDefineAtEveryPlace(t *testing.T) {
	whole := allKeys()
	for at, e := range whole.Keys {
		s := stateOf(whole.Lsn, whole.Floor, append(append([]api.Entry{}, whole.Keys[:at]...), whole.Keys[at+1:]...)...)
		for _, p := range []api.Policy{flow(1, 0), flow(m, m), grid(0, 1), grid(m, m)} {
			want := with(whole, at, entry(e.Key, p, api.Level{}))
			want.Lsn++
			expectTaken(t, "a define of a key that isn't there", s, define(3, e.Key, p), want)
			expectRefused(t, "a define of a key that is there", whole, whole.Lsn+1, define(3, e.Key, p), api.ErrLog)
		}
		expectRefused(t, "a define with the policy that is there", whole, whole.Lsn+1, define(3, e.Key, e.Policy), api.ErrLog)
	}
}

func TestDeleteAtEveryPlace(t *testing.T) {
	whole := allKeys()
	for at, e := range whole.Keys {
		want := stateOf(whole.Lsn+1, whole.Floor, append(append([]api.Entry{}, whole.Keys[:at]...), whole.Keys[at+1:]...)...)
		expectTaken(t, "a delete of a key that is there", whole, remove(3, e.Key), want)
		expectRefused(t, "a delete of a key that isn't there", want, want.Lsn+1, remove(3, e.Key), api.ErrLog)
	}
	expectRefused(t, "a delete where there is no key", stateOf(3, 3), 4, remove(3, "a"), api.ErrLog)
}

// TestCeilingAtEveryPlace: each level over each level that a key may have.
func TestCeilingAtEveryPlace(t *testing.T) {
	for at, e := range abc().Keys {
		for _, p := range []api.Policy{flow(10, 20), grid(3, 100), flow(m, 0), grid(0, 1)} {
			for _, v := range levels() {
				if !plainFits(p, v) {
					continue
				}
				s := with(abc(), at, entry(e.Key, p, v))
				for _, c := range levels() {
					r := ceiling(3, e.Key, c)
					want := with(s, at, entry(e.Key, p, c))
					want.Lsn++
					switch {
					case !plainRecord(r):
						expectRefused(t, "a level of both rules", s, s.Lsn+1, r, api.ErrArg)
					case !plainFits(p, c):
						expectRefused(t, "a level that isn't in form", s, s.Lsn+1, r, api.ErrLog)
					case !plainCovers(p, c, v):
						expectRefused(t, "a level below the key's", s, s.Lsn+1, r, api.ErrLog)
					default:
						expectTaken(t, "a level that covers the key's", s, r, want)
					}
				}
			}
		}
	}
	for _, key := range []string{"A", "aa", "bb", "d"} {
		for _, v := range []api.Level{{}, tat(m), used(m, m)} {
			expectRefused(t, "a ceiling of a key that isn't there", abc(), 8, ceiling(3, key, v), api.ErrLog)
		}
	}
}

// TestFloors: the greater one of the state's and the record's, whatever the record does.
func TestFloors(t *testing.T) {
	floors := []uint64{0, 1, 49, 50, 51, 1 << 32, 1 << 63, m - 1, m}
	for _, have := range floors {
		for _, told := range floors {
			for _, r := range []api.Record{define(told, "d", flow(1, 0)), remove(told, "b"), ceiling(told, "a", tat(99))} {
				s := abc()
				s.Floor = have
				if out, err := state.Apply(s, 8, r); err != nil || out.Floor != max(have, told) {
					t.Errorf("P13.2: Floor is %d, %v behind %s over %d", out.Floor, err, tellRecord(r), have)
				}
			}
		}
	}
}

// TestNumbersOfRecords: the next one alone is taken, and none above MaxLsn.
func TestNumbersOfRecords(t *testing.T) {
	for _, at := range []uint64{0, 1, 2, 7, 1 << 32, 1<<32 - 1, 1 << 61, last - 2, last - 1, last} {
		s := stateOf(at, 5, abc().Keys...)
		for _, r := range []api.Record{define(3, "d", flow(1, 0)), remove(3, "b"), ceiling(3, "a", tat(99))} {
			for _, lsn := range []uint64{0, at - 1, at, at + 1, at + 2, at + 1<<32, at + 1 + 1<<32, at + 1 + 1<<63, last, last + 1, m - 1, m} {
				out, err := expectApply(t, s, lsn, r)
				if taken := lsn == at+1 && at < last; taken != (err == nil) || taken && out.Lsn != lsn || !taken && err != api.ErrGap {
					t.Errorf("P13.2: Apply over Lsn %d of number %d: Lsn %d, %v", at, lsn, out.Lsn, err)
				}
			}
		}
	}
	for _, lsn := range []uint64{last + 1, 1 << 63, m - 1, m} {
		expectRefused(t, "a state above MaxLsn", stateOf(lsn, 5), lsn+1, define(3, "d", flow(1, 0)), api.ErrArg)
	}
}

// TestFullStates: there is room for MaxKeys keys, and for no more until one is gone.
func TestFullStates(t *testing.T) {
	whole := stateOf(9, 5, manyKeys(full)...)
	for _, at := range []int{0, 1, full / 2, full - 2, full - 1} {
		e := whole.Keys[at]
		expectRefused(t, "a define where there are MaxKeys keys", whole, 10, define(3, between(at), flow(1, 0)), api.ErrLog)
		expectRefused(t, "a define of one of MaxKeys keys", whole, 10, define(3, e.Key, flow(1, 0)), api.ErrLog)
		expectRefused(t, "a delete of another one", whole, 10, remove(3, between(at)), api.ErrLog)
		raised := with(whole, at, entry(e.Key, e.Policy, raisedLevel(e)))
		raised.Lsn = 10
		expectTaken(t, "a ceiling of one of MaxKeys keys", whole, ceiling(3, e.Key, raisedLevel(e)), raised)
		one, err := state.Apply(whole, 10, remove(3, e.Key))
		if err != nil || len(one.Keys) != full-1 {
			t.Fatalf("P13.2: behind a delete of one of MaxKeys keys: %s, %v", tell(one), err)
		}
		two, err := state.Apply(one, 11, define(3, between(at), e.Policy))
		if err != nil || len(two.Keys) != full || !plainEqual(two, stateOf(11, 5, with(whole, at, entry(between(at), e.Policy, api.Level{})).Keys...)) {
			t.Fatalf("P13.2: behind a delete and a define: %s, %v", tell(two), err)
		}
		expectApply(t, whole, 10, remove(3, e.Key))
		expectApply(t, one, 11, define(3, between(at), e.Policy))
	}
	expectRefused(t, "a define ahead of MaxKeys keys", whole, 10, define(3, "a", flow(1, 0)), api.ErrLog)
	expectRefused(t, "a define behind MaxKeys keys", whole, 10, define(3, "z", flow(1, 0)), api.ErrLog)
}

// raisedLevel is a level of e's rule above the one that it has.
func raisedLevel(e api.Entry) api.Level {
	if e.Policy.Kind == api.Flow {
		return tat(e.Level.Tat + 1)
	}
	return used(e.Level.Index, e.Level.Count+1)
}

// TestTheOrderOfErrors: of two faults at once.
func TestTheOrderOfErrors(t *testing.T) {
	wrong := []api.State{stateOf(last+1, 0, abc().Keys...), stateOf(7, 0, manyKeys(full+1)...), with(abc(), 2, entry("a", flow(1, 0), api.Level{}))}
	bad := []api.Record{{}, remove(0, ""), define(0, "a", flow(0, 1)), {Kind: api.RecCeiling, Key: "b", Level: api.Level{Tat: 1, Index: 1}}}
	refused := []api.Record{define(0, "a", flow(1, 0)), remove(0, "d"), ceiling(0, "d", tat(1)), ceiling(0, "a", used(9, 9)), ceiling(0, "b", used(2, 4))}
	taken := []api.Record{define(0, "d", flow(1, 0)), remove(0, "a"), ceiling(0, "a", tat(99))}
	for _, lsn := range []uint64{0, 7, 8, 9, last + 1, m} {
		for _, s := range wrong {
			for _, list := range [][]api.Record{bad, refused, taken} {
				for _, r := range list {
					expectRefused(t, "no state, and whatever else", s, lsn, r, api.ErrArg)
					expectRefused(t, "no state, and whatever else", s, s.Lsn+1, r, api.ErrArg)
				}
			}
		}
		for _, r := range bad {
			expectRefused(t, "no record, and whatever number", abc(), lsn, r, api.ErrArg)
		}
		if lsn != 8 {
			for _, r := range append(refused, taken...) {
				expectRefused(t, "another number, whatever the record", abc(), lsn, r, api.ErrGap)
			}
		}
	}
	for _, r := range refused {
		expectRefused(t, "the next number", abc(), 8, r, api.ErrLog)
	}
	atEnd := stateOf(last, 5, abc().Keys...)
	for _, r := range append(refused, taken...) {
		expectRefused(t, "a number above MaxLsn", atEnd, last+1, r, api.ErrGap)
	}
	for _, r := range bad {
		expectRefused(t, "a number above MaxLsn, no record", atEnd, last+1, r, api.ErrArg)
	}
	expectRefused(t, "another number where there are MaxKeys keys", stateOf(9, 5, manyKeys(full)...), 11, define(3, "z", flow(1, 0)), api.ErrGap)
}

// TestStatesGrowAndShrink: all keys defined one by one from either end, and deleted again.
func TestStatesGrowAndShrink(t *testing.T) {
	for _, step := range []int{1, 3, 5, 27} {
		s := api.State{}
		keys := risingKeys()
		for i := range keys {
			key := keys[(i*step+5)%len(keys)]
			next, err := expectApply(t, s, s.Lsn+1, define(uint64(i), key, flow(uint64(i+1), 0)))
			if err != nil || len(next.Keys) != i+1 {
				t.Fatalf("P13.2: behind %d defines: %s, %v", i+1, tell(next), err)
			}
			s = next
		}
		for i := range keys {
			key := keys[(i*step+9)%len(keys)]
			next, err := expectApply(t, s, s.Lsn+1, remove(uint64(i), key))
			if err != nil || len(next.Keys) != len(keys)-1-i {
				t.Fatalf("P13.2: behind %d deletes: %s, %v", i+1, tell(next), err)
			}
			s = next
		}
		if want := stateOf(uint64(2*len(keys)), uint64(len(keys)-1)); !plainEqual(s, want) {
			t.Errorf("P13.2: at the end %s, want %s", tell(s), tell(want))
		}
	}
}

// TestADefineBehindADelete begins with the level of nothing, and may have another rule.
func TestADefineBehindADelete(t *testing.T) {
	for _, p := range []api.Policy{flow(10, 20), grid(3, 100)} {
		s := abc()
		for i, r := range []api.Record{remove(51, "a"), define(52, "a", p), remove(53, "b"), define(54, "b", p)} {
			next, err := expectApply(t, s, uint64(8+i), r)
			if err != nil {
				t.Fatalf("P13.2: %s: %v", tellRecord(r), err)
			}
			s = next
		}
		want := stateOf(11, 54, entry("a", p, api.Level{}), entry("b", p, api.Level{}), abc().Keys[2])
		if !plainEqual(s, want) {
			t.Errorf("P13.2: behind deletes and defines %s, want %s", tell(s), tell(want))
		}
	}
}

// TestKeysOfEveryLength: of 1 to 64 bytes they come and go, of others the record is none.
func TestKeysOfEveryLength(t *testing.T) {
	for length := range 130 {
		for _, x := range []string{"k", "\x00", "\xff"} {
			key := strings.Repeat(x, length)
			s, err := expectApply(t, abc(), 8, define(5, key, grid(3, 10)))
			if want := length >= 1 && length <= 64; want != (err == nil) {
				t.Fatalf("P13.2: a define of a key of %d bytes: %v", length, err)
			}
			if err != nil {
				expectRefused(t, fmt.Sprint(length, " bytes"), abc(), 8, define(5, key, grid(3, 10)), api.ErrArg)
				continue
			}
			raised, err := expectApply(t, s, 9, ceiling(6, key, used(1, 1)))
			if _, gone := expectApply(t, raised, 10, remove(7, key)); err != nil || gone != nil {
				t.Errorf("P13.2: a ceiling and a delete of a key of %d bytes: %v, %v", length, err, gone)
			}
		}
	}
}
