package segment_test

import (
	"fmt"
	"slices"
	"strings"
	"testing"

	"turnstile/api"
	"turnstile/disk"
	"turnstile/segment"
)

// history is what a segment was given: the records that are safe, and those that were handed in behind them.
type history struct {
	safe   [][]byte
	handed [][]byte
}

// note keeps what a call did: of an Append that answered a disk's error all records may stand there.
func (h *history) note(c call, err error) {
	switch {
	case c.op == "Append" && (err == nil || err == api.ErrIo || err == api.ErrDown):
		h.handed = append(h.handed, c.records...)
	case c.op == "Sync" && err == nil:
		h.safe, h.handed = append(h.safe, h.handed...), nil
	}
}

// found goes on from what Open answered: behind a loss of power all of it is safe.
func (h *history) found(records [][]byte, loss bool) {
	safe := len(h.safe)
	if loss {
		safe = len(records)
	}
	h.safe, h.handed = slices.Clone(records[:safe]), slices.Clone(records[safe:])
}

// expectFound: at least the safe records, and besides only such as were handed in behind them, in their order, without a gap.
func (h *history) expectFound(t *testing.T, at string, records [][]byte) {
	t.Helper()
	all := slices.Concat(h.safe, h.handed)
	if len(records) < len(h.safe) || len(records) > len(all) || !sameRecords(records, all[:len(records)]) {
		t.Fatalf("P9.8: %s: Open finds %s, want at least %s, and besides only of %s", at, tellRecords(records), tellRecords(h.safe), tellRecords(h.handed))
	}
}

// everyFates gives all fates of so many sectors.
func everyFates(sectors int, do func([]int)) {
	row := make([]int, sectors)
	for number := 0; ; number++ {
		left := number
		for i := range row {
			row[i] = left % 3
			left /= 3
		}
		if left > 0 {
			return
		}
		do(row)
	}
}

// expectAfterLoss opens what each loss of power leaves, cuts it, goes on with a record, and opens it again.
func expectAfterLoss(t *testing.T, at string, d *disk.Disk, h *history) int {
	t.Helper()
	sectors, _ := d.Waiting()
	losses := 0
	everyFates(sectors, func(row []int) {
		losses++
		at := fmt.Sprintf("%s, then a loss with the fates %v", at, row)
		left := loaded(t, d.Crash(fates(0, row...)).Files...)
		s, records, err := segment.Open(left, 7)
		if err != nil {
			t.Fatalf("P9.8: %s: Open: %v", at, err)
		}
		h.expectFound(t, at, records)
		expectErr(t, "P9.5: "+at+", Open, Cut", s.Cut(), nil)
		expectErr(t, "P9.6: "+at+", Open, Cut, Append", s.Append([]byte("new")), nil)
		expectErr(t, "P9.7: "+at+", Open, Cut, Append, Sync", s.Sync(), nil)
		opened(t, at+", Open, Cut, Append, Sync", loaded(t, left.Safe().Files...), 7, append(records[:len(records):len(records)], []byte("new")))
	})
	return losses
}

// rowsOfCalls are letters of which short rows are made: an Append of one block, one of three, a Sync.
func rowsOfCalls(size int) [][]call {
	if size == 0 {
		return [][]call{nil}
	}
	var list [][]call
	for _, row := range rowsOfCalls(size - 1) {
		place := byte('a' + len(row))
		for _, c := range []call{add([][]byte{{place}, {place, '2'}}), add(append(sized(200, 199, 200, 198, 200), []byte{place})), syncAll()} {
			list = append(list, append(slices.Clone(row), c))
		}
	}
	return list
}

func tellCalls(calls []call) string {
	var words []string
	for _, c := range calls {
		words = append(words, c.String())
	}
	return strings.Join(words, ", ")
}

// TestSafeRecordsAreFound: behind every short row of calls, with every fate of each sector that waits.
func TestSafeRecordsAreFound(t *testing.T) {
	losses := 0
	for size := range 4 {
		for _, row := range rowsOfCalls(size) {
			d := disk.New()
			s, h := created(t, d, 7), &history{}
			for _, c := range row {
				err := c.on(s)
				expectErr(t, c.String(), err, nil)
				h.note(c, err)
			}
			if sectors, _ := d.Waiting(); sectors <= 7 {
				losses += expectAfterLoss(t, tellCalls(row), d, h)
			}
		}
	}
	if losses < 6000 {
		t.Errorf("there were %d losses alone", losses)
	}
}

// TestSafeRecordsAreFoundWhateverFails: each operation of each row fails, with parts of all kinds, or has the power lost in it; the calls behind it are made all the same.
func TestSafeRecordsAreFoundWhateverFails(t *testing.T) {
	for _, row := range rowsOfCalls(3) {
		for number := 1; number <= 3; number++ {
			for _, part := range []int{-2, -1, 0, 511, 512, 700, 1024, 5000} {
				d := disk.New()
				s, h := created(t, d, 7), &history{}
				if part == -2 {
					d.Arm(nil, number)
				} else {
					d.Arm([]api.Fail{{At: number, Part: part}}, 0)
				}
				for _, c := range row {
					h.note(c, c.on(s))
				}
				if sectors, _ := d.Waiting(); sectors <= 4 {
					expectAfterLoss(t, fmt.Sprintf("%s, number %d failing behind %d bytes", tellCalls(row), number, part), d, h)
				}
			}
		}
	}
}

// TestLossesOneBehindTheOther: what is found behind one is safe, and found behind the next.
func TestLossesOneBehindTheOther(t *testing.T) {
	d := disk.New()
	s, h := created(t, d, 7), &history{}
	play := func(calls ...call) {
		for _, c := range calls {
			h.note(c, c.on(s))
		}
	}
	list := someFates()
	for round := range 300 {
		play(add([][]byte{{byte(round)}, {byte(round), 1}}))
		switch round % 5 {
		case 1:
			play(syncAll())
		case 2:
			d.Arm(nil, 1+round%2)
			play(add(sized(200, 200, 200, round%200)), syncAll())
		case 3:
			d.Arm([]api.Fail{{At: 1, Part: round * 7 % 1700}}, 0)
			play(add(sized(200, 200, 200, 200, round%200)))
		case 4:
			play(add(sized(200, 200, 199)), syncAll(), add(texts("behind")))
		}
		left := loaded(t, d.Crash(list[round*5%len(list)]).Files...)
		found, records, err := segment.Open(left, 7)
		expectErr(t, "P9.8: Open", err, nil)
		h.expectFound(t, fmt.Sprintf("behind %d losses", round+1), records)
		h.found(records, true)
		d, s = left, found
		play(cut())
	}
	if s.Blocks() < 200 || s.Next() < 400 {
		t.Errorf("behind all losses there are %d blocks, Next is %d", s.Blocks(), s.Next())
	}
}
