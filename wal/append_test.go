package wal_test

import (
	"bytes"
	"fmt"
	"slices"
	"testing"

	"turnstile/api"
	"turnstile/disk"
	"turnstile/wal"
)

// TestAppendOneByOne: behind each record the answers are reckoned from its number alone.
func TestAppendOneByOne(t *testing.T) {
	for _, blocks := range []int{1, 2, 3, 7} {
		w, d := begun(t, blocks)
		segments, safe := []uint64{1}, uint64(0)
		var records [][]byte
		for number := uint64(1); number <= 25; number++ {
			if number > 1 && (number-1)%uint64(blocks) == 0 {
				segments, safe = append(segments, number), number-1
			}
			record := bytes.Repeat([]byte{byte(number)}, int(number*8))
			records = append(records, record)
			appended(t, w, string(record), number)
			expectLog(t, fmt.Sprintf("blocks %d, %d records", blocks, number), w, number+1, safe, false, segments...)
		}
		again := opened(t, "again", d, 0, blocks, records)
		expectLog(t, "again", again, 26, 25, false, segments...)
		for i, first := range segments {
			data, _, _ := d.Read(plainName(first))
			rows := records[first-1 : min(int(first)-1+blocks, len(records))]
			var want []byte
			for k, record := range rows {
				want = append(want, packed(t, first+uint64(k), [][]byte{record})...)
			}
			if !bytes.Equal(data, want) {
				t.Fatalf("P10.1: blocks %d: segment %d, the one of number %d, has %d bytes, want %d", blocks, i, first, len(data), len(want))
			}
		}
	}
}

func TestAppendOfAnyLength(t *testing.T) {
	w, d := begun(t, 3)
	var records [][]byte
	for length := range 201 {
		records = append(records, junk(length))
		appended(t, w, string(junk(length)), uint64(length+1))
	}
	for _, length := range []int{201, 202, 255, 256, 494, 512, 65535, 65536, 70000} {
		number, err := w.Append(junk(length))
		if number != 0 || err != api.ErrLong {
			t.Errorf("P10.1: Append of %d bytes answers %d, %v", length, number, err)
		}
	}
	if w.Next() != 202 || w.Sick() {
		t.Errorf("P10.1: behind records too long Next is %d, Sick %v", w.Next(), w.Sick())
	}
	expectErr(t, "Sync", w.Sync(), nil)
	opened(t, "all lengths", loaded(t, d.Safe()), 0, 3, records)
}

// TestAppendOfNoByte: nil and an empty one are records, each with its number.
func TestAppendOfNoByte(t *testing.T) {
	w, d := begun(t, 2)
	for number, record := range [][]byte{nil, {}, nil, make([]byte, 0, 9)} {
		if have, err := w.Append(record); have != uint64(number+1) || err != nil {
			t.Errorf("P10.1: Append of no byte answers %d, %v", have, err)
		}
	}
	expectLog(t, "four records of no byte", w, 5, 2, false, 1, 3)
	opened(t, "four records of no byte", d, 0, 2, texts("", "", "", ""))
}

// TestAppendBeyondTheLastNumber: refused, ahead of a new segment, and the log goes on.
func TestAppendBeyondTheLastNumber(t *testing.T) {
	for _, blocks := range []int{1, 2, 3, 1024} {
		d := disk.New()
		w := opened(t, "three numbers left", d, maxLsn-3, blocks, nil)
		for number := uint64(maxLsn - 2); number <= maxLsn; number++ {
			appended(t, w, "z", number)
		}
		for range 3 {
			segments, safe, ops := w.Segments(), w.Safe(), d.Ops()
			for _, record := range [][]byte{nil, []byte("z"), junk(200), junk(201)} {
				if number, err := w.Append(record); number != 0 || err != api.ErrLong {
					t.Errorf("P10.1: beyond MaxLsn Append answers %d, %v", number, err)
				}
				expectLog(t, "beyond MaxLsn", w, maxLsn+1, safe, false, segments...)
			}
			if d.Ops() != ops {
				t.Errorf("P10.1: beyond MaxLsn Append takes %d operations", d.Ops()-ops)
			}
			expectErr(t, "P10.1: Sync up to MaxLsn", w.Sync(), nil)
			expectLog(t, "up to MaxLsn", w, maxLsn+1, maxLsn, false, segments...)
		}
		expectErr(t, "P10.4: Drop up to MaxLsn", w.Drop(maxLsn), nil)
		again := opened(t, "up to MaxLsn", d, maxLsn, blocks, nil)
		expectLog(t, "up to MaxLsn", again, maxLsn+1, maxLsn, false, w.Segments()...)
		if number, err := again.Append(nil); number != 0 || err != api.ErrLong || again.Sick() {
			t.Errorf("P10.1: beyond MaxLsn Append behind Open answers %d, %v", number, err)
		}
	}
}

// TestAppendBehindOpen: how full the last segment is goes by its blocks, not by its records, and by the new Open's blocks.
func TestAppendBehindOpen(t *testing.T) {
	for _, row := range []struct {
		counts []int
		blocks int
		want   []uint64 // behind the records 11 to 14
	}{
		{[]int{10}, 1, []uint64{1, 11, 12, 13, 14}},
		{[]int{10}, 2, []uint64{1, 12, 14}},
		{[]int{10}, 4, []uint64{1, 14}},
		{[]int{10}, 5, []uint64{1}},
		{[]int{3, 7}, 2, []uint64{1, 11, 13}},
		{[]int{3, 7}, 1, []uint64{1, 11, 12, 13, 14}},
		{[]int{2, 2, 2, 2, 2}, 3, []uint64{1, 11, 14}},
		{[]int{2, 2, 2, 2, 2}, 5, []uint64{1, 11}},
		{[]int{2, 2, 2, 2, 2}, 6, []uint64{1, 12}},
		{[]int{2, 2, 2, 2, 2}, 9, []uint64{1}},
	} {
		// What is cut doesn't count.
		for _, file := range []api.File{fileOf(t, 1, row.counts...), with(fileOf(t, 1, row.counts...), junk(3000))} {
			at := fmt.Sprintf("%v behind Open with blocks %d", row.counts, row.blocks)
			d := loaded(t, imageOf(file))
			w := opened(t, at, d, 0, row.blocks, recordsOf(1, 1, 10))
			for number := uint64(11); number <= 14; number++ {
				appended(t, w, "new", number)
			}
			safe := max(10, row.want[len(row.want)-1]-1)
			expectLog(t, at, w, 15, safe, false, row.want...)
			opened(t, at, d, 0, 1, slices.Concat(recordsOf(1, 1, 10), texts("new", "new", "new", "new")))
		}
	}
}

func TestSegmentsOfMaxBlocks(t *testing.T) {
	w, d := begun(t, api.MaxBlocks)
	for number := range uint64(api.MaxBlocks) {
		appended(t, w, "", number+1)
	}
	expectLog(t, "a full segment", w, api.MaxBlocks+1, 0, false, 1)
	appended(t, w, "", api.MaxBlocks+1)
	expectLog(t, "behind a full segment", w, api.MaxBlocks+2, api.MaxBlocks, false, 1, api.MaxBlocks+1)
	again := opened(t, "MaxBlocks", d, api.MaxBlocks-1, api.MaxBlocks, texts("", ""))
	expectLog(t, "MaxBlocks", again, api.MaxBlocks+2, api.MaxBlocks+1, false, 1, api.MaxBlocks+1)
}

// TestManySegments: of one block each, with Drops that leave a few.
func TestManySegments(t *testing.T) {
	w, d := begun(t, 1)
	for number := uint64(1); number <= 3000; number++ {
		appended(t, w, fmt.Sprint(number), number)
		if number%500 == 0 {
			expectErr(t, "P10.4: Drop", w.Drop(number-3), nil)
			expectLog(t, "behind Drop", w, number+1, number-1, false, number-2, number-1, number)
		}
	}
	if names, _ := d.Names(); len(names) != 3 {
		t.Errorf("P10.4: behind all Drops the disk has %q", names)
	}
	opened(t, "many segments", d, 2997, 1, texts("2998", "2999", "3000"))
}

// TestSafe: it goes up by Sync, and by a new segment, and by nothing else.
func TestSafe(t *testing.T) {
	w, d := begun(t, 3)
	steps := []struct {
		call call
		safe uint64
	}{
		{syncAll(), 0}, {add([]byte("1")), 0}, {drop(1), 0}, {syncAll(), 1}, {add([]byte("2")), 1}, {add([]byte("3")), 1}, {add(junk(201)), 1},
		{add([]byte("4")), 3}, {add([]byte("5")), 3}, {syncAll(), 5}, {add([]byte("6")), 5}, {add([]byte("7")), 6}, {drop(6), 6}, {syncAll(), 7}, {syncAll(), 7},
	}
	for i, step := range steps {
		step.call.on(w)
		if w.Safe() != step.safe {
			t.Errorf("P10.1: behind step %d, %s, Safe is %d, want %d", i, step.call, w.Safe(), step.safe)
		}
		_, records, err := wal.Open(loaded(t, d.Safe()), w.Segments()[0]-1, 3)
		if found := int(w.Segments()[0]) - 1 + len(records); found < int(step.safe) || err != nil {
			t.Errorf("P10.2: behind step %d, %s, %d records are safe, %v, want %d", i, step.call, found, err, step.safe)
		}
	}
}

func TestNilLog(t *testing.T) {
	var w *wal.Wal
	for _, c := range []call{add(nil), add([]byte("a")), add(junk(201)), syncAll(), drop(0), drop(1<<64 - 1)} {
		number, err := c.on(w)
		if number != 0 || err != api.ErrNil {
			t.Errorf("P10.1: %s of a nil log answers %d, %v", c, number, err)
		}
	}
	expectLog(t, "a nil log", w, 0, 0, false)
}
