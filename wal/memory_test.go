package wal_test

import (
	"bytes"
	"fmt"
	"slices"
	"sync"
	"testing"

	"turnstile/api"
	"turnstile/disk"
	"turnstile/wal"
)

// roomy is a record with spare room behind it.
func roomy(record []byte) []byte {
	long := append(bytes.Clone(record), "spare"...)
	return long[:len(record):len(long)]
}

func copies(records [][]byte) [][]byte {
	var out [][]byte
	for _, record := range records {
		out = append(out, bytes.Clone(record))
	}
	return out
}

// scribble writes over all of b, its spare room too.
func scribble(b []byte) {
	b = b[:cap(b)]
	for i := range b {
		b[i] ^= 0xa5
	}
}

// scribbleList writes over each record, and then over the list that leads to them, its spare room too.
func scribbleList(records [][]byte) {
	for _, record := range records {
		scribble(record)
	}
	all := records[:cap(records)]
	for i := range all {
		all[i] = []byte("scribbled")
	}
}

// TestARecordHandedInIsNeitherChangedNorKept: whether the Append goes, needs a new segment, is refused, fails, or has the power lost in it.
func TestARecordHandedInIsNeitherChangedNorKept(t *testing.T) {
	for _, row := range texts("", "a", "abc", string(junk(199)), string(junk(200)), string(junk(201))) {
		for _, kind := range []string{"goes", "is refused", "fails", "has the power lost in it", "is to a sick log"} {
			for ahead := range 4 {
				at := fmt.Sprintf("Append of %d bytes behind %d records, which %s", len(row), ahead, kind)
				w, d := countedLog(t, maxLsn-uint64(ahead)-1, 2, ahead)
				switch kind {
				case "is refused":
					appended(t, w, "the last one", maxLsn)
				case "fails":
					d.Arm([]api.Fail{{At: 1, Part: 400}, {At: 2}}, 0)
				case "has the power lost in it":
					d.Arm(nil, 1)
				case "is to a sick log":
					d.Arm([]api.Fail{{At: 1}}, 0)
					expectErr(t, at, w.Sync(), api.ErrIo)
				}
				record := roomy(row)
				all := bytes.Clone(record[:cap(record)])
				w.Append(record)
				if !bytes.Equal(record[:cap(record)], all) {
					t.Errorf("P10.1: %s: what is handed in is changed", at)
				}
				kept := d.Crash(fates(9, 1, 1, 1))
				next, safe, sick, segments := w.Next(), w.Safe(), w.Sick(), w.Segments()
				scribble(record)
				expectLog(t, at+", written over", w, next, safe, sick, segments...)
				if !sameImage(d.Crash(fates(9, 1, 1, 1)), kept) {
					t.Errorf("P10.1: %s: what is handed in is kept", at)
				}
			}
		}
	}
}

// TestRecordsAnsweredAreNewMemory: each may be written over and grown; neither the others, nor the disk, nor the log, nor another answer is changed by it.
func TestRecordsAnsweredAreNewMemory(t *testing.T) {
	img := imageOf(fileOf(t, 1, 2, 1, 3), fileOf(t, 7, 1), with(fileOf(t, 8, 4), junk(9)))
	for _, after := range []uint64{0, 1, 4, 6, 8, 11} {
		want := slices.Concat(recordsOf(1, after+1, 6), recordsOf(7, max(7, after+1), 7), recordsOf(8, max(8, after+1), 11))
		d := loaded(t, img)
		w, records, err := wal.Open(d, after, 2)
		expectErr(t, "Open", err, nil)
		_, others, _ := wal.Open(d, after, 2)
		now := copies(records)
		for k, record := range records {
			_ = append(record, "grown"...)
			scribble(record)
			now[k] = bytes.Clone(record)
			if !sameRecords(records, now) {
				t.Fatalf("P10.1: record %d of those behind %d shares memory with another one", k, after)
			}
		}
		scribbleList(records)
		if !sameRecords(others, want) {
			t.Errorf("P10.1: two answers share memory: %s, want %s", tellRecords(others), tellRecords(want))
		}
		expectLog(t, "written over", w, 12, 11, false, 1, 7, 8)
		appended(t, w, "new", 12)
		opened(t, "written over", d, after, 2, append(want, []byte("new")))
	}
}

// TestARecordHandedOn: what Open answered may be handed to Append, also of another log.
func TestARecordHandedOn(t *testing.T) {
	d := loaded(t, imageOf(fileOf(t, 1, 2, 1)))
	w, records, err := wal.Open(d, 0, 2)
	expectErr(t, "Open", err, nil)
	other, e := begun(t, 2)
	for i, record := range records {
		for _, one := range []*wal.Wal{w, other} {
			if _, err := one.Append(record); err != nil {
				t.Errorf("P10.1: Append of record %d that Open answered: %v", i, err)
			}
		}
	}
	want := copies(records)
	scribbleList(records)
	opened(t, "handed on", d, 0, 2, append(copies(want), want...))
	opened(t, "handed on to another log", e, 0, 2, want)
}

// TestSegmentsAnsweredAreNewMemory: also behind a Drop, which leaves room ahead of them, and while the list grows.
func TestSegmentsAnsweredAreNewMemory(t *testing.T) {
	w, d := countedLog(t, 0, 1, 3)
	want := []uint64{1, 2, 3}
	for next := uint64(4); next <= 20; next++ {
		answers := [][]uint64{w.Segments(), w.Segments()}
		if next%5 == 0 {
			expectErr(t, "Drop", w.Drop(want[1]), nil)
			want = want[2:]
		}
		appended(t, w, fmt.Sprint(next), next)
		want = append(want, next)
		first := slices.Clone(answers[1])
		for _, list := range answers[:1] {
			list = list[:cap(list)]
			for i := range list {
				list[i] = 77
			}
		}
		if !slices.Equal(answers[1], first) {
			t.Fatalf("P10.1: two answers of Segments share memory")
		}
		expectLog(t, "written over", w, next+1, next-1, false, want...)
	}
	expectErr(t, "Drop", w.Drop(19), nil)
	if names, _ := d.Names(); !slices.Equal(names, []string{plainName(20)}) {
		t.Errorf("P10.4: behind Drop the disk has %q", names)
	}
}

// TestLogsBesideOneAnother: of two disks, none knows of the other.
func TestLogsBesideOneAnother(t *testing.T) {
	one, d := begun(t, 1)
	two, e := begun(t, 2)
	for number := uint64(1); number <= 4; number++ {
		appended(t, one, "one", number)
		appended(t, two, "two", number)
	}
	d.Arm([]api.Fail{{At: 1}}, 0)
	expectErr(t, "Sync", one.Sync(), api.ErrIo)
	expectErr(t, "Drop", two.Drop(2), nil)
	expectLog(t, "one", one, 5, 3, true, 1, 2, 3, 4)
	expectLog(t, "two", two, 5, 2, false, 3)
	opened(t, "one", d, 0, 1, texts("one", "one", "one", "one"))
	opened(t, "two", e, 2, 1, texts("two", "two"))
}

// TestLogsSideBySide: were something kept beside the objects, several goroutines would meet in it.
func TestLogsSideBySide(t *testing.T) {
	var workers sync.WaitGroup
	wrong := make([]int, 8)
	for worker := range wrong {
		workers.Go(func() {
			d := disk.New()
			w, _, err := wal.Open(d, uint64(worker), 1+worker)
			if err != nil {
				wrong[worker]++
				return
			}
			for i := range uint64(100) {
				number, err := w.Append([]byte{byte(worker)})
				if number != uint64(worker)+1+i || err != nil || w.Sync() != nil || w.Drop(i/2) != nil {
					wrong[worker]++
				}
			}
			_, records, err := wal.Open(d, uint64(worker)+60, 1+worker)
			if len(records) != 40 || err != nil || records[39][0] != byte(worker) {
				wrong[worker]++
			}
		})
	}
	workers.Wait()
	for worker, count := range wrong {
		if count > 0 {
			t.Errorf("worker %d had %d wrong answers beside the others", worker, count)
		}
	}
}
