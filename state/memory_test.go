package state_test

import (
	"slices"
	"strings"
	"sync"
	"testing"
	"unsafe"

	"turnstile/api"
	"turnstile/state"
)

var mark = api.Entry{Key: "spare room", Policy: api.Policy{Kind: 77}, Level: api.Level{Count: 99}}

// withRoom is s with spare room behind its keys, filled with a mark.
func withRoom(s api.State, spare int) api.State {
	keys := append(slices.Clone(s.Keys), slices.Repeat([]api.Entry{mark}, spare)...)
	s.Keys = keys[:len(s.Keys):len(keys)]
	return s
}

// roomOf is all that lies in the memory of s's keys, the spare room too.
func roomOf(s api.State) []api.Entry { return slices.Clone(s.Keys[:cap(s.Keys)]) }

// scribble writes over all keys, the spare room too.
func scribble(s api.State) {
	keys := s.Keys[:cap(s.Keys)]
	for i := range keys {
		keys[i] = api.Entry{Key: "scribble", Policy: api.Policy{Kind: -5}, Level: api.Level{Tat: 3}}
	}
}

// someRecords are taken, refused and none, at the first, a middle and the last key of abc, and beside them.
func someRecords() []api.Record {
	list := []api.Record{{}, define(1, "b", flow(1, 0)), remove(1, "x")}
	for _, key := range []string{"A", "aa", "bb", "d"} {
		list = append(list, define(60, key, grid(3, 10)))
	}
	for _, key := range []string{"a", "b", "c"} {
		list = append(list, remove(60, key), ceiling(3, key, tat(99)), ceiling(3, key, used(9, 9)), ceiling(3, key, api.Level{}))
	}
	return list
}

// someRows are short and long ones, with held ones in front or without.
func someRows() [][]api.Record {
	rows := [][]api.Record{{}, held(7), {remove(1, "a"), remove(1, "b"), remove(1, "c")}, append(held(7), remove(1, "a"), define(2, "a", grid(3, 10)))}
	for _, r := range someRecords() {
		rows = append(rows, []api.Record{r}, append(held(7), r), []api.Record{define(1, "n", flow(1, 0)), r, remove(1, "n"), {}})
	}
	return rows
}

// calls are Apply and Replay with arguments that are bound to them but for the state.
func calls() []func(api.State) (api.State, error) {
	var list []func(api.State) (api.State, error)
	for _, r := range someRecords() {
		for _, lsn := range []uint64{8, 9} {
			list = append(list, func(s api.State) (api.State, error) { return state.Apply(s, lsn, r) })
		}
	}
	for _, row := range someRows() {
		for _, first := range []uint64{0, 1, 8} {
			list = append(list, func(s api.State) (api.State, error) { return state.Replay(s, first, row) })
		}
	}
	return list
}

// TestStatesHandedInStay: with spare room that a define would fit in, and without.
func TestStatesHandedInStay(t *testing.T) {
	for _, spare := range []int{0, 1, 9} {
		s := withRoom(abc(), spare)
		room := roomOf(s)
		for _, call := range calls() {
			call(s)
			if !slices.Equal(s.Keys[:cap(s.Keys)], room) {
				t.Fatalf("P13.5: a call has written into the state's keys: %v", s.Keys[:cap(s.Keys)])
			}
		}
		state.Valid(s)
		state.Find(s, "b")
		state.Find(s, "bb")
		state.Equal(s, abc())
		if !slices.Equal(s.Keys[:cap(s.Keys)], room) {
			t.Fatalf("P13.5: Valid, Find or Equal has written into the state's keys: %v", s.Keys[:cap(s.Keys)])
		}
	}
}

func TestRecordsHandedInStay(t *testing.T) {
	for _, row := range someRows() {
		records := append(slices.Clone(row), held(5)...)
		room := slices.Clone(records[:cap(records)])
		for _, first := range []uint64{0, 1, 8, 9} {
			for _, count := range []int{len(row), len(records), 0} {
				state.Replay(abc(), first, records[:count])
				if !slices.Equal(records[:cap(records)], room) {
					t.Fatalf("P13.5: Replay has written into the records: %s", tellRecords(records[:cap(records)]))
				}
			}
		}
	}
}

// TestAnswersAreNewMemory: what is written over an answer is seen nowhere else, and what is written over an argument isn't seen in an answer.
func TestAnswersAreNewMemory(t *testing.T) {
	for _, spare := range []int{0, 1, 9} {
		for _, call := range calls() {
			s := withRoom(abc(), spare)
			room := roomOf(s)
			first, err := call(s)
			second, again := call(s)
			want := elsewhere(first)
			_ = append(first.Keys, mark, mark)
			scribble(first)
			if !plainEqual(second, want) || err != again {
				t.Fatalf("P13.5: two answers share memory: %s, %v, want %s, %v", tell(second), again, tell(want), err)
			}
			if !slices.Equal(s.Keys[:cap(s.Keys)], room) {
				t.Fatalf("P13.5: what is written over an answer is seen in the state that was handed in: %s", tell(s))
			}
			scribble(s)
			if !plainEqual(second, want) {
				t.Fatalf("P13.5: what is written over a state is seen in an answer: %s, want %s", tell(second), tell(want))
			}
		}
	}
}

// TestAnswersOfNoRecordsAreNewMemory: also where the answer is the state itself.
func TestAnswersOfNoRecordsAreNewMemory(t *testing.T) {
	for _, s := range append(smallStates(), fullStates()...) {
		want := elsewhere(s)
		handed := withRoom(s, 3)
		answer, err := state.Replay(handed, 7, nil)
		scribble(handed)
		if err != nil || !plainEqual(answer, want) {
			t.Fatalf("P13.5: Replay of no records is %s, %v, want %s", tell(answer), err, tell(want))
		}
	}
}

// TestAnswersOutliveTheirRecords: a record that was taken is written over.
func TestAnswersOutliveTheirRecords(t *testing.T) {
	row := []api.Record{define(1, "d", flow(1, 0)), ceiling(1, "d", tat(5)), define(1, "e", grid(3, 10))}
	s, err := state.Replay(abc(), 8, row)
	want := elsewhere(s)
	for i := range row {
		row[i] = api.Record{Kind: 9, Key: "other", Level: tat(1)}
	}
	if err != nil || !plainEqual(s, want) || len(s.Keys) != 5 {
		t.Errorf("P13.5: behind what was written over the records: %s, %v, want %s", tell(s), err, tell(want))
	}
}

// TestKeysAreTextsOfTheirOwn: a key handed in may be a piece of a long text, which an answer would keep.
func TestKeysAreTextsOfTheirOwn(t *testing.T) {
	long := strings.Repeat("abcdefgh", 1000)
	s := stateOf(7, 5, entry(long[0:1], flow(1, 0), tat(3)), entry(long[1:2], grid(3, 10), used(1, 1)), entry(long[2:3], flow(1, 0), tat(3)))
	rows := [][]api.Record{nil, {define(1, long[3:20], flow(1, 0))}, {ceiling(1, long[8:9], tat(9))}, {remove(1, long[9:10])},
		{remove(1, long[8:9]), define(1, long[16:17], grid(3, 10)), define(1, long[3:67], flow(1, 0)), ceiling(1, long[16:17], used(1, 1))}}
	for _, row := range rows {
		answer, err := state.Replay(s, 8, row)
		expectOwnTexts(t, answer, err, long)
		if len(row) == 1 {
			answer, err = state.Apply(s, 8, row[0])
			expectOwnTexts(t, answer, err, long)
		}
	}
}

func expectOwnTexts(t *testing.T, s api.State, err error, long string) {
	t.Helper()
	if err != nil || len(s.Keys) < 2 {
		t.Fatalf("P13.5: %s, %v", tell(s), err)
	}
	begin := uintptr(unsafe.Pointer(unsafe.StringData(long)))
	for _, e := range s.Keys {
		if at := uintptr(unsafe.Pointer(unsafe.StringData(e.Key))); at >= begin && at < begin+uintptr(len(long)) {
			t.Errorf("P13.5: the key %q of an answer is a piece of the text that was handed in", e.Key)
		}
	}
}

// TestCallsSideBySide: were something kept from call to call, several goroutines would meet in it.
func TestCallsSideBySide(t *testing.T) {
	list := calls()
	var wants []api.State
	var errs []error
	for _, call := range list {
		s, err := call(abc())
		wants, errs = append(wants, s), append(errs, err)
	}
	shared := abc()
	var workers sync.WaitGroup
	wrong := make([]int, 8)
	for worker := range wrong {
		workers.Go(func() {
			for round := range 3000 {
				i := (round + worker*5) % len(list)
				s, err := list[i](shared)
				at, there := state.Find(shared, "c")
				if err != errs[i] || !state.Equal(s, wants[i]) || !state.Valid(shared) || at != 2 || !there {
					wrong[worker]++
				}
				scribble(s)
			}
		})
	}
	workers.Wait()
	for worker, count := range wrong {
		if count > 0 {
			t.Errorf("P13.5: worker %d had %d wrong answers beside the others", worker, count)
		}
	}
}
