package wal_test

import (
	"fmt"
	"testing"

	"turnstile/api"
	"turnstile/disk"
	"turnstile/wal"
)

// expectSick: every call that writes is refused, for ever, and none is an operation; the answers stay.
func expectSick(t *testing.T, at string, w *wal.Wal, d *disk.Disk) {
	t.Helper()
	next, safe, segments, ops, seen := w.Next(), w.Safe(), w.Segments(), d.Ops(), d.Seen()
	for range 3 {
		d.Arm(nil, 0)
		for _, c := range []call{add(nil), add([]byte("a")), add(junk(201)), syncAll(), drop(0), drop(3), drop(1<<64 - 1)} {
			number, err := c.on(w)
			if number != 0 || err != api.ErrSick {
				t.Fatalf("P10.5: %s, then %s answers %d, %v", at, c, number, err)
			}
			expectLog(t, at+", then "+c.String(), w, next, safe, true, segments...)
		}
	}
	if d.Ops() != ops || !sameImage(d.Seen(), seen) {
		t.Fatalf("P10.5: %s: a sick log goes on at the disk", at)
	}
}

// TestWhatMakesALogSick: each operation of each call fails, or has the power lost in it; what the log answers behind it is written out.
func TestWhatMakesALogSick(t *testing.T) {
	for _, row := range []struct {
		what     string
		records  int // of a log with two blocks a segment
		call     call
		number   int // of the operation
		next     uint64
		safe     uint64
		segments []uint64
	}{
		{"the append", 3, add([]byte("x")), 1, 4, 2, []uint64{1, 3}},
		{"the append of no byte", 3, add(nil), 1, 4, 2, []uint64{1, 3}},
		{"the sync of the full segment", 4, add([]byte("x")), 1, 5, 2, []uint64{1, 3}},
		{"the create of the new segment", 4, add([]byte("x")), 2, 5, 4, []uint64{1, 3}},
		{"the sync of the new segment's name", 4, add([]byte("x")), 3, 5, 4, []uint64{1, 3}},
		{"the append to the new segment", 4, add([]byte("x")), 4, 5, 4, []uint64{1, 3, 5}},
		{"the sync", 4, syncAll(), 1, 5, 2, []uint64{1, 3}},
		{"the sync of nothing", 0, syncAll(), 1, 1, 0, []uint64{1}},
		{"the first removal", 7, drop(6), 1, 8, 6, []uint64{1, 3, 5, 7}},
		{"the second removal", 7, drop(6), 2, 8, 6, []uint64{3, 5, 7}},
		{"the third removal", 7, drop(1<<64 - 1), 3, 8, 6, []uint64{5, 7}},
		{"the sync of the names", 7, drop(6), 4, 8, 6, []uint64{7}},
		{"the sync of one name", 7, drop(2), 2, 8, 6, []uint64{3, 5, 7}},
	} {
		for _, want := range []error{api.ErrIo, api.ErrDown} {
			for _, part := range []int{-1, 0, 1, 511, 512, 5000} {
				at := fmt.Sprintf("%s answers %v, part %d", row.what, want, part)
				w, d := countedLog(t, 0, 2, row.records)
				if want == api.ErrIo {
					d.Arm([]api.Fail{{At: row.number, Part: part}}, 0)
				} else {
					d.Arm(nil, row.number)
				}
				ahead := d.Ops()
				number, err := row.call.on(w)
				if number != 0 || err != want {
					t.Fatalf("P10.1: %s: %s answers %d, %v", at, row.call, number, err)
				}
				expectLog(t, at, w, row.next, row.safe, true, row.segments...)
				if d.Ops() != ahead+row.number {
					t.Errorf("P10.1: %s: there are %d operations, want %d", at, d.Ops()-ahead, row.number)
				}
				expectSick(t, at, w, d)
				expectFoundAgain(t, at, w, d, row.call)
			}
		}
	}
}

// expectFoundAgain opens the disk anew: over it if it goes on, or behind a loss in which all that waits is kept.
func expectFoundAgain(t *testing.T, at string, w *wal.Wal, d *disk.Disk, c call) {
	t.Helper()
	if d.Down() {
		d = loaded(t, d.Crash(fates(9, 1, 1, 1)))
	}
	after := w.Segments()[0] - 1
	if c.op == "Drop" {
		after = min(c.upto, w.Next()-1)
	}
	again, records, err := wal.Open(d, after, 2)
	expectErr(t, "P10.2: "+at+", Open", err, nil)
	want := fromTo(after+1, w.Next()-1)
	if again.Next() == w.Next()+1 && c.op == "Append" {
		want = append(want, c.record)
	}
	if !sameRecords(records, want) || again.Sick() {
		t.Fatalf("P10.2: %s, Open: %s, want %s", at, tellRecords(records), tellRecords(want))
	}
	next := again.Next()
	appended(t, again, "goes on", next)
	expectErr(t, at+", Open, Append, Sync", again.Sync(), nil)
	expectErr(t, at+", Open, Append, Sync, Drop", again.Drop(next), nil)
	expectSickStill(t, at, w)
}

// expectSickStill: a new Open doesn't heal the old log.
func expectSickStill(t *testing.T, at string, w *wal.Wal) {
	t.Helper()
	if err := w.Sync(); err != api.ErrSick || !w.Sick() {
		t.Fatalf("P10.5: %s, while another one goes on: Sync answers %v", at, err)
	}
}

// TestOtherErrorsOfTheDisk make it sick, too: files that were taken away, or are there already, by others' hands.
func TestOtherErrorsOfTheDisk(t *testing.T) {
	for _, row := range []struct {
		what     string
		records  int
		by       operation
		call     call
		want     error
		next     uint64
		safe     uint64
		segments []uint64
	}{
		{"the last file is gone", 3, remove(3), add([]byte("x")), api.ErrGone, 4, 2, []uint64{1, 3}},
		{"the full file is gone", 4, remove(3), add([]byte("x")), api.ErrGone, 5, 2, []uint64{1, 3}},
		{"the last file is gone", 3, remove(3), syncAll(), api.ErrGone, 4, 2, []uint64{1, 3}},
		{"the new file is there", 4, create(5), add([]byte("x")), api.ErrThere, 5, 4, []uint64{1, 3}},
		{"the first file is gone", 5, remove(1), drop(4), api.ErrGone, 6, 4, []uint64{1, 3, 5}},
		{"the second file is gone", 5, remove(3), drop(4), api.ErrGone, 6, 4, []uint64{3, 5}},
	} {
		w, d := countedLog(t, 0, 2, row.records)
		expectErr(t, row.what, row.by.on(d), nil)
		number, err := row.call.on(w)
		if number != 0 || err != row.want {
			t.Errorf("P10.1: %s: %s answers %d, %v, want %v", row.what, row.call, number, err, row.want)
		}
		expectLog(t, row.what, w, row.next, row.safe, true, row.segments...)
		expectSick(t, row.what, w, d)
	}
	// A file that isn't met makes nothing sick.
	w, d := countedLog(t, 0, 2, 3)
	expectErr(t, "Remove", remove(1).on(d), nil)
	expectErr(t, "Drop of none", w.Drop(1), nil)
	appended(t, w, "4", 4)
	expectErr(t, "Sync", w.Sync(), nil)
	expectLog(t, "a file that isn't met", w, 5, 4, false, 1, 3)
}

// TestWhatMakesNoLogSick: what is refused, and what others' calls met.
func TestWhatMakesNoLogSick(t *testing.T) {
	w, d := countedLog(t, 0, 2, 4)
	for range 3 {
		if _, err := w.Append(junk(201)); err != api.ErrLong {
			t.Errorf("P10.1: Append of 201 bytes answers %v", err)
		}
		d.Arm([]api.Fail{{At: 1}, {At: 2}}, 0)
		expectErr(t, "SyncNames", d.SyncNames(), api.ErrIo)
		expectErr(t, "Sync", d.Sync(plainName(3)), api.ErrIo)
		refused(t, "outside", d, 0, 0, api.ErrArg)
		expectErr(t, "Drop of none", w.Drop(1), nil)
	}
	expectLog(t, "not sick", w, 5, 2, false, 1, 3)
	appended(t, w, "5", 5)
	expectErr(t, "Sync", w.Sync(), nil)
	expectErr(t, "Drop", w.Drop(4), nil)
	expectLog(t, "not sick", w, 6, 5, false, 5)
	opened(t, "not sick", loaded(t, d.Safe()), 4, 2, fromTo(5, 5))
}
