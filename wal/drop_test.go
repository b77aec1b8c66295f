package wal_test

import (
	"fmt"
	"math"
	"slices"
	"strconv"
	"testing"

	"turnstile/api"
	"turnstile/disk"
	"turnstile/wal"
)

// fromTo are the records with these numbers of a log whose records are their numbers.
func fromTo(from, to uint64) [][]byte {
	out := [][]byte{}
	for number := from; number <= to; number++ {
		out = append(out, strconv.AppendUint(nil, number, 10))
	}
	return out
}

// countedLog is a log whose records are their numbers, from after + 1 on.
func countedLog(t *testing.T, after uint64, blocks, count int) (*wal.Wal, *disk.Disk) {
	t.Helper()
	d := disk.New()
	w := opened(t, "an empty disk", d, after, blocks, nil)
	for i := range uint64(count) {
		appended(t, w, strconv.FormatUint(after+1+i, 10), after+1+i)
	}
	return w, d
}

// TestDropEverywhere: with every number up to some behind the last one, and the greatest ones; then Open finds what is above it.
func TestDropEverywhere(t *testing.T) {
	for _, after := range []uint64{0, 6, maxLsn - 9} {
		for blocks := 1; blocks <= 4; blocks++ {
			for count := range 10 {
				last := after + uint64(count)
				tos := []uint64{0, math.MaxUint64, math.MaxUint64 - 1, 1 << 63, maxLsn, maxLsn + 1}
				for upto := after - min(after, 2); upto <= last+3; upto++ {
					tos = append(tos, upto)
				}
				for _, upto := range tos {
					expectDrop(t, after, blocks, count, upto)
				}
			}
		}
	}
}

func expectDrop(t *testing.T, after uint64, blocks, count int, upto uint64) {
	t.Helper()
	at := fmt.Sprintf("after %d, blocks %d, %d records, Drop(%d)", after, blocks, count, upto)
	w, d := countedLog(t, after, blocks, count)
	next, safe, ahead, ops := w.Next(), w.Safe(), w.Segments(), d.Ops()
	// Which stay, from the last one back: those that hold a record above upto.
	stay := slices.Clone(ahead)
	for len(stay) > 1 {
		if last := stay[0] + uint64(blocks) - 1; last > upto {
			break
		}
		stay = stay[1:]
	}
	expectErr(t, "P10.4: "+at, w.Drop(upto), nil)
	expectLog(t, at, w, next, safe, false, stay...)
	want := len(ahead) - len(stay)
	if want > 0 {
		want++
	}
	if names, _ := d.Names(); len(names) != len(stay) || d.Ops() != ops+want {
		t.Fatalf("P10.4: %s leaves %q behind %d operations", at, names, d.Ops()-ops)
	}
	if _, names := d.Waiting(); names > 0 {
		t.Fatalf("P10.4: %s leaves %d changes of names that wait", at, names)
	}
	expectErr(t, "Sync", w.Sync(), nil)
	from := max(upto, after)
	if from > maxLsn {
		return
	}
	_, records, err := wal.Open(loaded(t, d.Safe()), from, blocks)
	if from == maxLsn && next <= maxLsn {
		expectErr(t, "P10.4: "+at+", Open", err, api.ErrArg)
		return
	}
	above := [][]byte{}
	if from < next {
		above = fromTo(from+1, next-1)
	}
	if err != nil || !sameRecords(records, above) {
		t.Fatalf("P10.4: %s, then Open(%d): %s, %v, want %s", at, from, tellRecords(records), err, tellRecords(above))
	}
}

// TestDropGoesOn: the log takes records as before, in the same segment.
func TestDropGoesOn(t *testing.T) {
	w, d := countedLog(t, 0, 2, 5)
	expectErr(t, "P10.4: Drop", w.Drop(1<<64-1), nil)
	expectLog(t, "behind Drop", w, 6, 4, false, 5)
	for number := uint64(6); number <= 9; number++ {
		appended(t, w, strconv.FormatUint(number, 10), number)
	}
	expectLog(t, "going on", w, 10, 8, false, 5, 7, 9)
	for range 2 {
		expectErr(t, "P10.4: Drop", w.Drop(6), nil)
		expectLog(t, "behind another Drop", w, 10, 8, false, 7, 9)
	}
	expectErr(t, "P10.4: Drop of less", w.Drop(3), nil)
	expectLog(t, "behind a Drop of less", w, 10, 8, false, 7, 9)
	opened(t, "behind Drops", d, 6, 2, fromTo(7, 9))
	refused(t, "behind Drops", d, 5, 2, api.ErrGap)
}

// TestDropOfFoundSegments: of any lengths, as an Open found them.
func TestDropOfFoundSegments(t *testing.T) {
	for upto := range uint64(25) {
		d := loaded(t, imageOf(fileOf(t, 3, 3), fileOf(t, 6, 1, 4), fileOf(t, 11, 1), fileOf(t, 12, 7), fileOf(t, 19)))
		w, _, err := wal.Open(d, 4, 1)
		expectErr(t, "Open", err, nil)
		var stay []uint64
		for _, row := range []struct{ first, last uint64 }{{3, 5}, {6, 10}, {11, 11}, {12, 18}, {19, math.MaxUint64}} {
			if row.last > upto {
				stay = append(stay, row.first)
			}
		}
		expectErr(t, "P10.4: Drop", w.Drop(upto), nil)
		expectLog(t, fmt.Sprintf("found segments, Drop(%d)", upto), w, 19, 18, false, stay...)
	}
}

// TestDropLeavesOtherFiles: also those whose names look like segments'.
func TestDropLeavesOtherFiles(t *testing.T) {
	d := loaded(t, imageOf(append(notSegments(), fileOf(t, 1, 1), fileOf(t, 2, 1))...))
	w := opened(t, "other files", d, 0, 1, [][]byte{numbered(1, 1), numbered(2, 2)})
	expectErr(t, "P10.4: Drop", w.Drop(1<<64-1), nil)
	if want := imageOf(append(notSegments(), fileOf(t, 2, 1))...); !sameImage(d.Safe(), loaded(t, want).Safe()) {
		t.Errorf("P10.4: behind Drop the disk has %s", tellImage(d.Safe()))
	}
}
