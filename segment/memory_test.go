package segment_test

import (
	"bytes"
	"fmt"
	"sync"
	"testing"

	"turnstile/api"
	"turnstile/disk"
	"turnstile/segment"
)

// roomy is records with spare room behind each, and a spare record behind the list.
func roomy(records [][]byte) [][]byte {
	out := make([][]byte, 0, len(records)+1)
	for _, record := range records {
		long := append(bytes.Clone(record), "spare"...)
		out = append(out, long[:len(record):len(long)])
	}
	return append(out, []byte("spare"))[:len(records)]
}

// allOf is a copy of records with all that stands in their spare room, and in the list's.
func allOf(records [][]byte) [][]byte {
	var out [][]byte
	for _, record := range records[:cap(records)] {
		out = append(out, bytes.Clone(record[:cap(record)]))
	}
	return out
}

func copies(records [][]byte) [][]byte {
	var out [][]byte
	for _, record := range records {
		out = append(out, bytes.Clone(record))
	}
	return out
}

// scribble writes over all of b, its spare room too.
func scribble(b []byte) {
	b = b[:cap(b)]
	for i := range b {
		b[i] ^= 0xa5
	}
}

// scribbleList writes over each record, and then over the list that leads to them.
func scribbleList(records [][]byte) {
	for _, record := range records {
		scribble(record)
	}
	all := records[:cap(records)]
	for i := range all {
		all[i] = []byte("scribbled")
	}
}

func memoryRows() [][][]byte {
	return [][][]byte{texts("a"), texts(""), texts("", "x", "", "yz"), sized(200), sized(200, 200, 88), sized(200, 200, 200, 200, 200), sized(make([]int, 300)...)}
}

// TestRecordsHandedInAreNeitherChangedNorKept: whether the Append goes, is refused, fails, or has the power lost in it.
func TestRecordsHandedInAreNeitherChangedNorKept(t *testing.T) {
	for i, row := range append(memoryRows(), sized(201), nil) {
		for kind := range 5 {
			at := fmt.Sprintf("row %d, kind %d", i, kind)
			d := disk.New()
			s := created(t, d, maxLsn-500)
			switch kind {
			case 1:
				d.Arm([]api.Fail{{At: 1, Part: 600}}, 0)
			case 2:
				d.Arm(nil, 1)
			case 3:
				s = created(t, d, maxLsn)
			case 4:
				d.Arm([]api.Fail{{At: 1}}, 0)
				expectErr(t, at, s.Sync(), api.ErrIo)
			}
			records := roomy(row)
			ahead := allOf(records)
			s.Append(records...)
			if !sameRecords(allOf(records), ahead) {
				t.Errorf("P9.6: %s: Append changes what is handed in", at)
			}
			kept := d.Crash(fates(9, 1, 1, 1))
			next, blocks := s.Next(), s.Blocks()
			scribbleList(records)
			if !sameImage(d.Crash(fates(9, 1, 1, 1)), kept) || s.Next() != next || s.Blocks() != blocks {
				t.Errorf("P9.6: %s: Append keeps what is handed in", at)
			}
		}
	}
}

// TestRecordsAnsweredAreNewMemory: each may be written over and grown; neither the others, nor the disk, nor the segment, nor another answer is changed by it.
func TestRecordsAnsweredAreNewMemory(t *testing.T) {
	for i, row := range memoryRows() {
		at := fmt.Sprintf("row %d", i)
		d := loaded(t, api.File{Name: plainName(7), Data: packed(t, 7, row, row)})
		want := append(copies(row), row...)
		s, records, _ := segment.Open(d, 7)
		_, others, _ := segment.Open(d, 7)
		now := copies(records)
		for k, record := range records {
			_ = append(record, "grown"...)
			scribble(record)
			now[k] = bytes.Clone(record)
			if !sameRecords(records, now) {
				t.Fatalf("P9.3: %s: record %d shares memory with another one", at, k)
			}
		}
		scribbleList(records)
		if !sameRecords(others, want) {
			t.Errorf("P9.3: %s: two answers share memory", at)
		}
		blocks := len(d.Seen().Files[0].Data) / 512
		expectState(t, at, s, 7+uint64(len(want)), blocks, true)
		opened(t, at+", behind what was written over the answer", d, 7, want)
		expectErr(t, "P9.6: Append", s.Append([]byte("new")), nil)
		opened(t, at+", behind what was written over the answer, and Append", d, 7, append(copies(want), []byte("new")))
	}
}

// TestARecordHandedOn: what Open answered may be handed to Append, and the other way round.
func TestARecordHandedOn(t *testing.T) {
	d := loaded(t, api.File{Name: plainName(7), Data: blocksOf(t, 7)})
	s, records, _ := segment.Open(d, 7)
	expectErr(t, "P9.6: Append of what Open answered", s.Append(records...), nil)
	expectErr(t, "P9.6: Append of what Open answered", s.Append(records[1], records[1]), nil)
	scribbleList(records)
	want := append(append(append([][]byte{}, ofBlocks...), ofBlocks...), ofBlocks[1], ofBlocks[1])
	opened(t, "what was handed on", d, 7, want)
}

// TestSegmentsSideBySide: were something kept beside the objects, several goroutines would meet in it.
func TestSegmentsSideBySide(t *testing.T) {
	var workers sync.WaitGroup
	wrong := make([]int, 8)
	for worker := range wrong {
		workers.Go(func() {
			d := disk.New()
			s, err := segment.Create(d, uint64(1+worker))
			if err != nil {
				wrong[worker]++
				return
			}
			for range 100 {
				if s.Append([]byte{byte(worker)}) != nil || s.Sync() != nil {
					wrong[worker]++
				}
			}
			_, records, _ := segment.Open(d, uint64(1+worker))
			first, ok := segment.First(segment.Name(uint64(1 + worker)))
			if len(records) != 100 || records[99][0] != byte(worker) || first != uint64(1+worker) || !ok {
				wrong[worker]++
			}
		})
	}
	workers.Wait()
	for worker, count := range wrong {
		if count > 0 {
			t.Errorf("worker %d had %d wrong answers beside the others", worker, count)
		}
	}
}
