package state_test

import (
	"fmt"
	"slices"
	"testing"

	"turnstile/api"
	"turnstile/state"
)

// expectReplayed: Replay answers just this, and so does the plain reckoning.
func expectReplayed(t *testing.T, what string, s api.State, first uint64, records []api.Record, want api.State, wantErr error) {
	t.Helper()
	if have, err := state.Replay(s, first, records); err != wantErr || !plainEqual(have, want) {
		t.Errorf("P13.2: %s: Replay(%s, %d, %s) is %s, %v, want %s, %v", what, tell(s), first, tellRecords(records), tell(have), err, tell(want), wantErr)
	}
	expectReplay(t, s, first, records)
}

// firsts are first numbers about what s asks for, and the ends.
func firsts(s api.State) []uint64 {
	return []uint64{0, 1, 2, s.Lsn - 1, s.Lsn, s.Lsn + 1, s.Lsn + 2, last, last + 1, last + 2, 1 << 63, m - 1, m}
}

func TestReplayOfNoRecords(t *testing.T) {
	for _, s := range slices.Concat(smallStates(), fullStates(), wrongStates()) {
		for _, first := range firsts(s) {
			for _, none := range [][]api.Record{nil, {}, badRecords()[:0]} {
				if plainValid(s) && first != 0 {
					expectReplayed(t, "no records", s, first, none, s, nil)
				} else {
					expectReplayed(t, "no records, no state or a first of 0", s, first, none, api.State{}, api.ErrArg)
				}
			}
		}
	}
}

// TestReplayOfEveryRow goes through all rows of up to four of these records, from every first number about the state's.
func TestReplayOfEveryRow(t *testing.T) {
	pool := []api.Record{define(5, "a", flow(10, 0)), define(2, "b", grid(3, 10)), remove(3, "a"), ceiling(7, "a", tat(30)),
		ceiling(1, "a", tat(20)), ceiling(4, "b", used(1, 2)), {Kind: 9}}
	seen := map[error]int{}
	for _, s := range []api.State{{}, stateOf(2, 6, entry("a", flow(10, 0), tat(25))), stateOf(1, 0, entry("b", grid(1, 1), used(1, 2)))} {
		for _, row := range rowsOf(pool, 4) {
			for first := range uint64(5) {
				_, err := expectReplay(t, s, first, row)
				seen[err]++
			}
		}
	}
	for _, err := range []error{nil, api.ErrArg, api.ErrGap, api.ErrLog} {
		if seen[err] < 500 {
			t.Errorf("%d answers were %v: too few", seen[err], err)
		}
	}
}

// rowsOf is all rows of at most so many of these records.
func rowsOf(pool []api.Record, most int) [][]api.Record {
	rows := [][]api.Record{nil}
	for begin := 0; most > 0; most-- {
		end := len(rows)
		for _, row := range rows[begin:end] {
			for _, r := range pool {
				rows = append(rows, append(slices.Clone(row), r))
			}
		}
		begin = end
	}
	return rows
}

// held is records that no state would take, as many as asked for.
func held(count int) []api.Record {
	list := append(badRecords(), remove(m, "nowhere"), define(m, "a", flow(1, 0)), ceiling(m, "a", api.Level{}))
	var out []api.Record
	for i := range count {
		out = append(out, list[i*7%len(list)])
	}
	return out
}

// TestRecordsThatAreHeldChangeNothing: however many of a row's records have a number that the state has reached, and whatever they are.
func TestRecordsThatAreHeldChangeNothing(t *testing.T) {
	rest := []api.Record{remove(3, "b"), define(60, "d", grid(3, 10)), ceiling(2, "a", tat(31))}
	for _, lsn := range []uint64{1, 2, 7, 40, 1 << 32, 1<<32 + 3, last - 40, last - 3} {
		s := stateOf(lsn, 50, abc().Keys...)
		want := stateOf(lsn+3, 60, entry("a", flow(10, 20), tat(31)), abc().Keys[2], entry("d", grid(3, 10), api.Level{}))
		for count := range 50 {
			first := lsn + 1 - uint64(count)
			if uint64(count) > lsn {
				break
			}
			rows := held(count)
			expectReplayed(t, "held records and others", s, first, append(rows, rest...), want, nil)
			expectReplayed(t, "held records alone", s, first, rows, s, nil)
			expectReplayed(t, "held records and one that is none", s, first, append(rows, api.Record{}), api.State{}, api.ErrArg)
			expectReplayed(t, "held records and one that is refused", s, first, append(rows, remove(0, "d")), api.State{}, api.ErrLog)
			for fewer := range min(count, 5) {
				expectReplayed(t, "held records, not up to the last", s, first, rows[:fewer], s, nil)
			}
		}
	}
}

// TestHeldRecordsOfAStateAtTheEnd: behind MaxLsn nothing is taken, and what is held is still let by.
func TestHeldRecordsOfAStateAtTheEnd(t *testing.T) {
	s := stateOf(last, 50, abc().Keys...)
	for count := range 20 {
		first := uint64(last + 1 - count)
		expectReplayed(t, "held records alone", s, first, held(count), s, nil)
		expectReplayed(t, "one more than is held", s, first, append(held(count), remove(0, "a")), api.State{}, api.ErrGap)
		expectReplayed(t, "one more than is held, which is none", s, first, append(held(count), remove(0, "")), api.State{}, api.ErrArg)
		expectReplayed(t, "one more than is held, which it wouldn't take", s, first, append(held(count), remove(0, "x")), api.State{}, api.ErrGap)
	}
	s.Lsn--
	want := stateOf(last, 50, abc().Keys[1:]...)
	for count := range 20 {
		first := uint64(last - count)
		expectReplayed(t, "the last record", s, first, append(held(count), remove(0, "a")), want, nil)
		expectReplayed(t, "one behind the last record", s, first, append(held(count), remove(0, "a"), remove(0, "b")), api.State{}, api.ErrGap)
		expectReplayed(t, "one behind the last record, which is none", s, first, append(held(count), remove(0, "a"), api.Record{}), api.State{}, api.ErrArg)
	}
}

// TestFirstNumbers: a row that begins behind the next number has a gap, also where its numbers go past 2^64 - 1.
func TestFirstNumbers(t *testing.T) {
	row := []api.Record{define(5, "d", flow(10, 0)), define(5, "e", flow(10, 0)), remove(5, "a"), remove(5, "b"), remove(5, "c")}
	for _, s := range []api.State{abc(), stateOf(0, 5, abc().Keys...), stateOf(1, 5, abc().Keys...), stateOf(4, 5, abc().Keys...)} {
		for _, first := range []uint64{s.Lsn + 2, s.Lsn + 3, 1 << 32, last - 1, last, last + 1, 1 << 63, m - 7, m - 4, m - 3, m - 2, m - 1, m} {
			for length := 1; length <= len(row); length++ {
				expectReplayed(t, "a gap", s, first, row[:length], api.State{}, api.ErrGap)
				expectReplayed(t, "a gap, and a record that is none behind", s, first, append(slices.Clone(row[:length]), api.Record{}), api.State{}, api.ErrGap)
				expectReplayed(t, "a gap at a record that is none", s, first, append([]api.Record{{}}, row[:length]...), api.State{}, api.ErrArg)
			}
		}
		expectReplayed(t, "a first of 0", s, 0, row, api.State{}, api.ErrArg)
		expectReplayed(t, "a first of 0", s, 0, append(held(int(s.Lsn)+1), row...), api.State{}, api.ErrArg)
	}
}

// TestNumbersPastTheEnd: were the numbers wrapped, the later ones of these rows would be held, or the next.
func TestNumbersPastTheEnd(t *testing.T) {
	for _, lsn := range []uint64{0, 1, 3, 9, last} {
		s := stateOf(lsn, 5, abc().Keys...)
		for behind := range uint64(12) {
			for count := 1; count < 24; count++ {
				expectReplayed(t, "records that are none", s, m-behind, held(count), api.State{}, firstFault(held(count)[0]))
				rows := slices.Repeat([]api.Record{remove(0, "a")}, count)
				expectReplayed(t, "records far ahead", s, m-behind, rows, api.State{}, api.ErrGap)
			}
		}
	}
}

// firstFault is what Apply answers of r with a number that isn't due.
func firstFault(r api.Record) error {
	if plainRecord(r) {
		return api.ErrGap
	}
	return api.ErrArg
}

// TestTheFirstErrorOfARow: the fault at each place, with one of another kind behind it.
func TestTheFirstErrorOfARow(t *testing.T) {
	good := []api.Record{define(5, "d", flow(10, 0)), ceiling(6, "d", tat(9)), remove(7, "a"), define(8, "a", grid(3, 10)), remove(9, "d"), ceiling(9, "a", used(1, 1))}
	faults := map[error]api.Record{api.ErrArg: {Kind: api.RecDelete}, api.ErrLog: remove(5, "nowhere")}
	for at := range len(good) + 1 {
		for err, r := range faults {
			for _, behind := range [][]api.Record{nil, {{}}, {remove(0, "nobody")}, good[at:]} {
				row := append(slices.Insert(slices.Clone(good[:at]), at, r), behind...)
				expectReplayed(t, fmt.Sprint("a fault at ", at), abc(), 8, row, api.State{}, err)
				expectReplayed(t, fmt.Sprint("a fault at ", at, ", behind held ones"), abc(), 3, append(held(5), row...), api.State{}, err)
			}
		}
		if _, err := state.Replay(abc(), 8, good[:at]); err != nil {
			t.Errorf("P13.2: the first %d of the good records: %v", at, err)
		}
	}
}

// TestReplayOverStatesThatAreNot: ahead of all else, with records held and without, with a first of 0 too.
func TestReplayOverStatesThatAreNot(t *testing.T) {
	for _, s := range wrongStates() {
		for _, first := range firsts(s) {
			for _, row := range [][]api.Record{{define(5, "d", flow(10, 0))}, {{}}, held(9)} {
				expectReplayed(t, "no state", s, first, row, api.State{}, api.ErrArg)
			}
		}
	}
}

// TestReplayAtMaxKeys: defines up to the last one that there is room for, and one more.
func TestReplayAtMaxKeys(t *testing.T) {
	var row []api.Record
	for i := range full + 1 {
		row = append(row, define(uint64(i), between(i*1237%(full+1)), flow(1, 0)))
	}
	s, err := state.Replay(api.State{}, 1, row[:full])
	if err != nil || len(s.Keys) != full || s.Lsn != full || s.Floor != full-1 || !plainValid(s) {
		t.Fatalf("P13.2: behind MaxKeys defines: %s, %v", tell(s), err)
	}
	expectReplayed(t, "one define more", api.State{}, 1, row, api.State{}, api.ErrLog)
	row = slices.Insert(row, full, remove(0, between(0)))
	s, err = state.Replay(api.State{}, 1, row)
	if err != nil || len(s.Keys) != full || s.Lsn != full+2 || !plainValid(s) {
		t.Fatalf("P13.2: behind a delete and one define more: %s, %v", tell(s), err)
	}
}
