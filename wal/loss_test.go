package wal_test

import (
	"bytes"
	"fmt"
	"slices"
	"testing"

	"turnstile/api"
	"turnstile/disk"
	"turnstile/wal"
)

// history is what a log was given since an Open that answered it.
type history struct {
	records map[uint64][]byte // by their numbers: what was found, and what was handed to Append, also where the disk refused it
	after   uint64            // the least number that the next Open is asked with
	safe    uint64            // up to this number all are found
	top     uint64            // the last number that may be found
}

func historyOf(w *wal.Wal, after uint64, records [][]byte) *history {
	h := &history{records: map[uint64][]byte{}, after: after, safe: w.Safe(), top: w.Next() - 1}
	for i, record := range records {
		h.records[after+1+uint64(i)] = record
	}
	return h
}

// play makes a call and keeps what it did.
func (h *history) play(w *wal.Wal, c call) (uint64, error) {
	number, err := c.on(w)
	h.note(w, c, number, err)
	return number, err
}

func (h *history) note(w *wal.Wal, c call, number uint64, err error) {
	h.safe = w.Safe()
	switch {
	case c.op == "Append" && err == nil:
		h.top = number
		h.records[number] = c.record
	case c.op == "Append" && err != api.ErrSick && err != api.ErrLong:
		h.top = w.Next()
		h.records[h.top] = c.record
	case c.op == "Drop" && c.upto > maxLsn:
		// No Open takes such a number; all records are covered.
		h.after = max(h.after, w.Next()-1)
	case c.op == "Drop":
		h.after = max(h.after, c.upto)
	}
}

// expectFound: such records alone, in their order, from after + 1 on, at least up to what is safe.
func (h *history) expectFound(t *testing.T, at string, after uint64, records [][]byte, next uint64) {
	t.Helper()
	last := after + uint64(len(records))
	if last < h.safe || len(records) > 0 && last > h.top || next != last+1 {
		t.Fatalf("P10.2: %s: Open(%d) finds %s, Next %d, want up to %d at least and up to %d at most", at, after, tellRecords(records), next, h.safe, h.top)
	}
	for i, record := range records {
		number := after + 1 + uint64(i)
		if want, there := h.records[number]; !there || !bytes.Equal(record, want) {
			t.Fatalf("P10.2: %s: Open(%d) finds %.8q as number %d, want %.8q, %v", at, after, record, number, want, there)
		}
	}
}

// expectAfterLosses opens what each loss of power leaves, also behind later numbers than it has to be asked with, opens it again behind another loss, and goes on with a record. It answers how many losses there were.
func (h *history) expectAfterLosses(t *testing.T, at string, d *disk.Disk, blocks int) int {
	t.Helper()
	losses := 0
	everyFates(d, func(f api.Fates) {
		losses++
		for after := h.after; after <= h.top+1; after++ {
			at := fmt.Sprintf("%s, then a loss with %v", at, f)
			left := loaded(t, d.Crash(f))
			w, records, err := wal.Open(left, after, blocks)
			expectErr(t, fmt.Sprintf("P10.2: %s, Open(%d)", at, after), err, nil)
			h.expectFound(t, at, after, records, w.Next())
			if sectors, names := left.Waiting(); sectors+names > 0 {
				t.Fatalf("P10.3: %s: behind Open %d sectors and %d names wait", at, sectors, names)
			}
			again := opened(t, at+", Open, another loss", loaded(t, left.Safe()), after, blocks, records)
			expectLog(t, at+", Open, another loss", again, w.Next(), w.Safe(), false, w.Segments()...)
			number, err := w.Append([]byte("new"))
			if number != after+uint64(len(records))+1 || err != nil {
				t.Fatalf("P10.1: %s, Open, Append: %d, %v", at, number, err)
			}
			expectErr(t, "P10.1: "+at+", Open, Append, Sync", w.Sync(), nil)
			opened(t, at+", Open, Append, Sync, another loss", loaded(t, left.Safe()), after, blocks, append(records[:len(records):len(records)], []byte("new")))
		}
	})
	return losses
}

// rowsOfCalls are rows of these calls, of this length; the records of a row are unlike each other.
func rowsOfCalls(size int, drops ...uint64) [][]call {
	if size == 0 {
		return [][]call{nil}
	}
	var list [][]call
	for _, row := range rowsOfCalls(size-1, drops...) {
		next := []call{add([]byte{byte('a' + len(row))}), syncAll()}
		for _, upto := range drops {
			next = append(next, drop(upto))
		}
		for _, c := range next {
			list = append(list, append(slices.Clone(row), c))
		}
	}
	return list
}

// TestSafeRecordsAreFound: behind every short row of calls, with every fate of each sector that waits.
func TestSafeRecordsAreFound(t *testing.T) {
	losses := 0
	for blocks := 1; blocks <= 3; blocks++ {
		for size := range 6 {
			for _, row := range rowsOfCalls(size, 2) {
				w, d := begun(t, blocks)
				h := historyOf(w, 0, nil)
				for _, c := range row {
					_, err := h.play(w, c)
					expectErr(t, c.String(), err, nil)
				}
				losses += h.expectAfterLosses(t, fmt.Sprintf("blocks %d, %s", blocks, tellCalls(row)), d, blocks)
			}
		}
	}
	if losses < 3000 {
		t.Errorf("there were %d losses alone", losses)
	}
}

// TestSafeRecordsAreFoundWhateverFails: each operation of each row fails, behind some bytes, or has the power lost in it; the calls behind it are made all the same.
func TestSafeRecordsAreFoundWhateverFails(t *testing.T) {
	ahead := []call{add([]byte("1")), add([]byte("22")), add([]byte("333")), add([]byte("4444"))}
	kinds := map[error]int{}
	for blocks := 1; blocks <= 2; blocks++ {
		for _, row := range rowsOfCalls(3, 1, 9) {
			for number := 1; number <= 7; number++ {
				for _, part := range []int{-2, 0, 511, 512} {
					w, d := begun(t, blocks)
					h := historyOf(w, 0, nil)
					for _, c := range ahead {
						h.play(w, c)
					}
					if part == -2 {
						d.Arm(nil, number)
					} else {
						d.Arm([]api.Fail{{At: number, Part: part}}, 0)
					}
					for _, c := range row {
						_, err := h.play(w, c)
						kinds[err]++
					}
					if w.Sick() {
						h.expectAfterLosses(t, fmt.Sprintf("blocks %d, %s, number %d disturbed, %d", blocks, tellCalls(row), number, part), d, blocks)
					}
				}
			}
		}
	}
	for _, kind := range []error{nil, api.ErrIo, api.ErrDown, api.ErrSick} {
		if kinds[kind] < 500 {
			t.Errorf("%d calls alone answered %v", kinds[kind], kind)
		}
	}
}

// TestLossesOneBehindTheOther: what is found behind one is safe, and found behind the next.
func TestLossesOneBehindTheOther(t *testing.T) {
	const blocks = 3
	w, d := begun(t, blocks)
	h := historyOf(w, 0, nil)
	list := someFates()
	for round := range 400 {
		for i := range round % 7 {
			h.play(w, add(fmt.Appendf(nil, "%d/%d", round, i)))
		}
		switch round % 6 {
		case 1, 4:
			h.play(w, syncAll())
		case 2:
			d.Arm(nil, 1+round%5)
		case 3:
			d.Arm([]api.Fail{{At: 1 + round%3, Part: round * 7 % 600}}, 0)
		case 5:
			h.play(w, drop(w.Safe()-min(w.Safe(), 4)))
		}
		for i := range 3 {
			h.play(w, add(fmt.Appendf(nil, "%d/%d behind", round, i)))
		}
		f := list[round*7%len(list)]
		d = loaded(t, d.Crash(f))
		found, records, err := wal.Open(d, h.after, blocks)
		at := fmt.Sprintf("loss number %d, with %v", round+1, f)
		expectErr(t, "P10.2: "+at, err, nil)
		h.expectFound(t, at, h.after, records, found.Next())
		w, h = found, historyOf(found, h.after, records)
	}
	if w.Next() < 800 || len(w.Segments()) > 30 {
		t.Errorf("behind all losses Next is %d, and there are %d segments", w.Next(), len(w.Segments()))
	}
}
