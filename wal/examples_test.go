package wal_test

import (
	"testing"

	"turnstile/api"
	"turnstile/disk"
	"turnstile/wal"
)

func TestExampleOfThreeRecords(t *testing.T) {
	d := disk.New()
	w := opened(t, "an empty disk", d, 0, 2, nil)
	expectLog(t, "at first", w, 1, 0, false, 1)
	if safe := d.Safe(); !sameImage(safe, imageOf(api.File{Name: "log.0000000000000001"})) {
		t.Fatalf("P10.1: behind Open safe is %s", tellImage(safe))
	}
	appended(t, w, "a", 1)
	appended(t, w, "b", 2)
	expectLog(t, "behind two", w, 3, 0, false, 1)
	appended(t, w, "c", 3)
	expectLog(t, "behind three", w, 4, 2, false, 1, 3)
	expectErr(t, "Sync", w.Sync(), nil)
	expectLog(t, "behind Sync", w, 4, 3, false, 1, 3)
}

func TestExampleOfALoss(t *testing.T) {
	_, d := begun(t, 2, "a", "b", "c")
	left := loaded(t, d.Crash(fates(0)))
	w := opened(t, "all lost", left, 0, 2, texts("a", "b"))
	expectLog(t, "all lost", w, 3, 2, false, 1, 3)
	if seen := left.Seen(); len(seen.Files) != 2 || len(seen.Files[1].Data) != 0 {
		t.Errorf("P10.2: behind the loss the disk has %s", tellImage(seen))
	}
	appended(t, w, "d", 3)
	expectLog(t, "going on", w, 4, 2, false, 1, 3)
}

func TestExampleOfAGap(t *testing.T) {
	d := loaded(t, imageOf(fileOf(t, 1, 1, 1), fileOf(t, 4, 1)))
	w := opened(t, "1 and 4", d, 0, 2, recordsOf(1, 1, 2))
	expectLog(t, "1 and 4", w, 3, 2, false, 1)
	if safe := d.Safe(); !sameImage(safe, imageOf(fileOf(t, 1, 1, 1))) {
		t.Errorf("P10.1: 4 is removed; the disk has %s", tellImage(safe))
	}
}

func TestExampleOfOlderSegments(t *testing.T) {
	d := loaded(t, imageOf(fileOf(t, 5, 2, 2), fileOf(t, 9, 1)))
	w := opened(t, "5 and 9", d, 10, 2, nil)
	expectLog(t, "5 and 9", w, 11, 10, false, 11)
	if safe := d.Safe(); !sameImage(safe, imageOf(fileOf(t, 11))) {
		t.Errorf("P10.1: both are removed; the disk has %s", tellImage(safe))
	}

	gap := imageOf(fileOf(t, 12, 1))
	d = loaded(t, gap)
	refused(t, "the first is 12", d, 10, 2, api.ErrGap)
	expectDisk(t, "the first is 12", d, loaded(t, gap))

	w = opened(t, "11 alone, empty", loaded(t, imageOf(fileOf(t, 11))), 10, 2, nil)
	expectLog(t, "11 alone, empty", w, 11, 10, false, 11)
}

func TestExampleOfASpoiltBlock(t *testing.T) {
	first := with(fileOf(t, 1, 1, 1), junk(512), 2)
	d := loaded(t, imageOf(first, fileOf(t, 3, 1)))
	w := opened(t, "a spoilt third", d, 0, 2, recordsOf(1, 1, 2))
	expectLog(t, "a spoilt third", w, 3, 2, false, 1)
	if safe := d.Safe(); !sameImage(safe, imageOf(fileOf(t, 1, 1, 1))) {
		t.Errorf("P10.1: the first is cut and 3 is removed; the disk has %s", tellImage(safe))
	}
}

func TestExampleOfDrops(t *testing.T) {
	for _, row := range []struct {
		upto uint64
		want []uint64
	}{{2, []uint64{3, 5}}, {4, []uint64{5}}, {100, []uint64{5}}} {
		w, _ := begun(t, 2, "a", "b", "c", "d", "e")
		expectLog(t, "five records", w, 6, 4, false, 1, 3, 5)
		expectErr(t, "Drop", w.Drop(row.upto), nil)
		expectLog(t, drop(row.upto).String(), w, 6, 4, false, row.want...)
	}
}

func TestExampleOfWhatIsRefused(t *testing.T) {
	w, _ := begun(t, 2)
	if number, err := w.Append(make([]byte, 201)); number != 0 || err != api.ErrLong {
		t.Errorf("P10.1: Append of 201 bytes answers %d, %v", number, err)
	}
	expectLog(t, "behind 201 bytes", w, 1, 0, false, 1)
	refused(t, "blocks 0", disk.New(), 0, 0, api.ErrArg)
	refused(t, "blocks 1025", disk.New(), 0, 1025, api.ErrArg)
	var none *wal.Wal
	number, err := none.Append(nil)
	if none.Next() != 0 || number != 0 || err != api.ErrNil || len(none.Segments()) > 0 {
		t.Errorf("P10.1: a nil log: Next %d, Append %d, %v, Segments %v", none.Next(), number, err, none.Segments())
	}
}
