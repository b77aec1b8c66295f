package state_test

import (
	"fmt"
	"math/rand"
	"slices"
	"testing"

	"turnstile/api"
	"turnstile/state"
)

// inTwo is Replay of the row's first records, and then of the others over what came of it.
func inTwo(s api.State, first uint64, row []api.Record, cut int) (api.State, error) {
	s, err := state.Replay(s, first, row[:cut])
	if err != nil {
		return s, err
	}
	return state.Replay(s, first+uint64(cut), row[cut:])
}

// expectPieces holds Replay of a row against that of its two pieces, wherever it is cut.
func expectPieces(t *testing.T, s api.State, first uint64, row []api.Record) {
	t.Helper()
	want, wantErr := state.Replay(s, first, row)
	for cut := range len(row) + 1 {
		if have, err := inTwo(s, first, row, cut); err != wantErr || !plainEqual(have, want) {
			t.Fatalf("P13.3: Replay(%s, %d, %s) cut at %d is %s, %v, whole it is %s, %v", tell(s), first, tellRecords(row), cut, tell(have), err, tell(want), wantErr)
		}
	}
}

func TestPiecesOfEveryRow(t *testing.T) {
	pool := []api.Record{define(5, "a", flow(10, 0)), define(2, "b", grid(3, 10)), remove(3, "a"), ceiling(7, "a", tat(30)), ceiling(1, "a", tat(20)), {Kind: 9}}
	for _, s := range []api.State{{}, stateOf(2, 6, entry("a", flow(10, 0), tat(25)))} {
		for _, row := range rowsOf(pool, 4) {
			for first := range uint64(5) {
				expectPieces(t, s, first, row)
			}
		}
	}
}

// TestPiecesOfDrawnRows: long ones, with records that are held in front, and now and then a fault on the way.
func TestPiecesOfDrawnRows(t *testing.T) {
	r := rand.New(rand.NewSource(134))
	ended := map[error]int{}
	for range 400 {
		s, row := drawnRun(r, 5+r.Intn(60), r.Intn(40) == 0)
		count := r.Intn(9)
		if uint64(count) > s.Lsn {
			count = 0
		}
		row = append(held(count), row...)
		first := s.Lsn + 1 - uint64(count)
		_, err := expectReplay(t, s, first, row)
		ended[err]++
		expectPieces(t, s, first, row)
	}
	if ended[nil] < 50 || ended[api.ErrLog] < 5 || ended[api.ErrArg] < 5 {
		t.Errorf("the drawn rows ended with %v: too few of a kind", ended)
	}
}

// TestReplayIsApplyOneByOne: of records that a state takes, and up to the first one that it doesn't.
func TestReplayIsApplyOneByOne(t *testing.T) {
	r := rand.New(rand.NewSource(135))
	for range 300 {
		s, row := drawnRun(r, 5+r.Intn(60), r.Intn(40) == 0)
		want, wantErr := s, error(nil)
		for i := 0; i < len(row) && wantErr == nil; i++ {
			want, wantErr = state.Apply(want, s.Lsn+1+uint64(i), row[i])
		}
		if have, err := state.Replay(s, s.Lsn+1, row); err != wantErr || !plainEqual(have, want) {
			t.Fatalf("P13.3: Replay is %s, %v, Apply one by one is %s, %v", tell(have), err, tell(want), wantErr)
		}
	}
}

// TestARowAgainAndAgain: what a state has taken already changes nothing, how often it comes again and wherever it begins.
func TestARowAgainAndAgain(t *testing.T) {
	r := rand.New(rand.NewSource(136))
	for range 60 {
		_, row := drawnRun(r, 40, true)
		for {
			whole, err := state.Replay(api.State{}, 1, row)
			if err == nil {
				for at := range row {
					expectReplayed(t, "a row again", whole, uint64(at+1), row[at:], whole, nil)
					part, err := state.Replay(api.State{}, 1, row[:at])
					if err != nil {
						t.Fatalf("P13.3: the first %d records of a good row: %v", at, err)
					}
					expectReplayed(t, "a row behind its beginning", part, 1, row, whole, nil)
				}
				break
			}
			row = row[:len(row)-1]
		}
	}
}

// TestOverlappingRows: each row begins among the records of the one ahead of it, which are other ones there.
func TestOverlappingRows(t *testing.T) {
	row := []api.Record{define(5, "a", flow(10, 0)), define(2, "b", grid(3, 10)), ceiling(7, "a", tat(30)), remove(3, "a"), define(9, "a", grid(0, 1)),
		ceiling(1, "b", used(1, 2)), remove(3, "b"), define(1, "c", flow(1, 1)), remove(3, "a"), ceiling(6, "c", tat(m))}
	want, err := state.Replay(api.State{}, 1, row)
	if err != nil || want.Lsn != 10 {
		t.Fatalf("P13.2: the whole row: %s, %v", tell(want), err)
	}
	for width := 1; width <= len(row); width++ {
		for back := range width {
			s := api.State{}
			for s.Lsn < 10 {
				begin := max(int(s.Lsn)-back, 0)
				end := min(int(s.Lsn)+width-back, len(row))
				if end <= int(s.Lsn) {
					end = int(s.Lsn) + 1
				}
				other := slices.Concat(held(int(s.Lsn)-begin), row[s.Lsn:end])
				next, err := state.Replay(s, uint64(begin+1), other)
				if err != nil {
					t.Fatalf("P13.3: width %d, %d back: %v", width, back, err)
				}
				s = next
			}
			if !plainEqual(s, want) {
				t.Errorf("P13.3: width %d, %d back: %s, want %s", width, back, tell(s), tell(want))
			}
		}
	}
}

// drawnRun is a valid state and a row of records behind it, of which nearly all are taken, or all if it is pure.
func drawnRun(r *rand.Rand, length int, pure bool) (api.State, []api.Record) {
	s := api.State{}
	if !pure && r.Intn(3) > 0 {
		s = allKeys()
		s.Keys = slices.DeleteFunc(s.Keys, func(api.Entry) bool { return r.Intn(2) == 0 })
		s.Lsn = []uint64{0, 1, 28, 1 << 32, last - 200}[r.Intn(5)]
	}
	now, row := s, []api.Record(nil)
	for len(row) < length {
		d := drawnRecord(r, now)
		next, err := plainApply(now, plus(now.Lsn, 1), d)
		if err == nil {
			now, row = next, append(row, d)
		} else if !pure && r.Intn(100) == 0 {
			row = append(row, d)
		}
	}
	return s, row
}

// drawnRecord is about a key that is there more often than not, and of every kind, right or wrong.
func drawnRecord(r *rand.Rand, s api.State) api.Record {
	key := anyKey(r)
	if len(s.Keys) > 0 && r.Intn(3) > 0 {
		key = s.Keys[r.Intn(len(s.Keys))].Key
	}
	floor := max(s.Floor, 4) + uint64(r.Intn(9)) - 4
	if r.Intn(30) == 0 {
		floor = uint64(r.Intn(200))
	}
	d := ceiling(floor, key, smallLevel(r))
	switch r.Intn(7) {
	case 0, 1, 2:
		d = define(floor, key, anyPolicy(r))
	case 3:
		d = remove(floor, key)
	}
	if r.Intn(20) == 0 {
		fields := []*uint64{&d.Policy.Gap, &d.Policy.Slack, &d.Policy.Limit, &d.Policy.Span, &d.Level.Tat, &d.Level.Index, &d.Level.Count}
		*fields[r.Intn(len(fields))] = anyNumber(r)
	}
	if r.Intn(60) == 0 {
		d.Kind = r.Intn(6) - 1
	}
	return d
}

// TestDrawnRowsOfApply: long rows of records, each held against the plain reckoning with numbers that are due and ones that aren't.
func TestDrawnRowsOfApply(t *testing.T) {
	r := rand.New(rand.NewSource(137))
	answers := map[string]int{}
	for range 30 {
		s, _ := drawnRun(r, 0, false)
		for range 1500 {
			d := drawnRecord(r, s)
			lsn := s.Lsn + 1
			if r.Intn(20) == 0 {
				lsn = anyNumber(r)
			}
			next, err := expectApply(t, s, lsn, d)
			answers[fmt.Sprint(d.Kind, " ", err)]++
			if err == nil {
				expectRise(t, s, d, next)
				s = next
			}
		}
	}
	for kind := 1; kind <= 3; kind++ {
		for _, err := range []error{nil, api.ErrArg, api.ErrGap, api.ErrLog} {
			if count := answers[fmt.Sprint(kind, " ", err)]; count < 50 {
				t.Errorf("%d of the drawn records of kind %d were answered %v: too few", count, kind, err)
			}
		}
	}
}

// TestDrawnStatesAndRecords: Apply and Replay of states that are nearly valid, and of records that are nearly right.
func TestDrawnStatesAndRecords(t *testing.T) {
	r := rand.New(rand.NewSource(138))
	for range 60000 {
		s := drawnState(r)
		lsn := s.Lsn + uint64(r.Intn(3))
		expectApply(t, s, lsn, drawnRecord(r, s))
		row := make([]api.Record, r.Intn(5))
		for i := range row {
			row[i] = drawnRecord(r, s)
		}
		expectReplay(t, s, lsn-uint64(r.Intn(3)), row)
	}
}
