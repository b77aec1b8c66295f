package wal_test

import (
	"fmt"
	"math"
	"slices"
	"testing"

	"turnstile/api"
	"turnstile/disk"
)

// TestOpen: which segments are good, and what is cut, is written out.
func TestOpen(t *testing.T) {
	for _, row := range []struct {
		what     string
		files    []api.File
		after    uint64
		records  [][]byte
		next     uint64
		segments []uint64
		left     []api.File
	}{
		{"an empty disk", nil, 0, nil, 1, []uint64{1}, []api.File{fileOf(t, 1)}},
		{"an empty disk, behind 41", nil, 41, nil, 42, []uint64{42}, []api.File{fileOf(t, 42)}},
		{"one empty segment", []api.File{fileOf(t, 1)}, 0, nil, 1, []uint64{1}, []api.File{fileOf(t, 1)}},
		{"one segment", []api.File{fileOf(t, 1, 1, 2)}, 0, recordsOf(1, 1, 3), 4, []uint64{1}, []api.File{fileOf(t, 1, 1, 2)}},
		{"three that join", []api.File{fileOf(t, 1, 1, 2), fileOf(t, 4, 1), fileOf(t, 5, 3)}, 0,
			slices.Concat(recordsOf(1, 1, 3), recordsOf(4, 4, 4), recordsOf(5, 5, 7)), 8, []uint64{1, 4, 5}, []api.File{fileOf(t, 1, 1, 2), fileOf(t, 4, 1), fileOf(t, 5, 3)}},
		{"the last one empty", []api.File{fileOf(t, 1, 1, 2), fileOf(t, 4)}, 0, recordsOf(1, 1, 3), 4, []uint64{1, 4}, []api.File{fileOf(t, 1, 1, 2), fileOf(t, 4)}},
		{"the first one empty", []api.File{fileOf(t, 1), fileOf(t, 2, 1)}, 0, nil, 1, []uint64{1}, []api.File{fileOf(t, 1)}},
		{"a gap of one", []api.File{fileOf(t, 1, 1, 2), fileOf(t, 5, 1), fileOf(t, 6, 1)}, 0, recordsOf(1, 1, 3), 4, []uint64{1}, []api.File{fileOf(t, 1, 1, 2)}},
		{"a number too early", []api.File{fileOf(t, 1, 1, 2), fileOf(t, 3, 2), fileOf(t, 5, 1)}, 0, recordsOf(1, 1, 3), 4, []uint64{1}, []api.File{fileOf(t, 1, 1, 2)}},
		{"a gap behind two", []api.File{fileOf(t, 1, 1), fileOf(t, 2, 1), fileOf(t, 4, 1)}, 0, [][]byte{numbered(1, 1), numbered(2, 2)}, 3, []uint64{1, 2}, []api.File{fileOf(t, 1, 1), fileOf(t, 2, 1)}},
		{"a gap, and one that would join behind it", []api.File{fileOf(t, 1, 1), fileOf(t, 3, 1), fileOf(t, 4, 1)}, 0, recordsOf(1, 1, 1), 2, []uint64{1}, []api.File{fileOf(t, 1, 1)}},
		{"the first isn't whole", []api.File{with(fileOf(t, 1, 1, 1), junk(1)), fileOf(t, 3, 1)}, 0, recordsOf(1, 1, 2), 3, []uint64{1}, []api.File{fileOf(t, 1, 1, 1)}},
		{"the midst isn't whole", []api.File{fileOf(t, 1, 1), with(fileOf(t, 2, 1), make([]byte, 512)), fileOf(t, 3, 1)}, 0, [][]byte{numbered(1, 1), numbered(2, 2)}, 3, []uint64{1, 2}, []api.File{fileOf(t, 1, 1), fileOf(t, 2, 1)}},
		{"the last isn't whole", []api.File{fileOf(t, 1, 1), fileOf(t, 2, 1), with(fileOf(t, 3, 2), junk(700))}, 0, [][]byte{numbered(1, 1), numbered(2, 2), numbered(3, 3), numbered(3, 4)}, 5, []uint64{1, 2, 3}, []api.File{fileOf(t, 1, 1), fileOf(t, 2, 1), fileOf(t, 3, 2)}},
		{"the last has nothing good", []api.File{fileOf(t, 1, 1), with(fileOf(t, 2), junk(600))}, 0, recordsOf(1, 1, 1), 2, []uint64{1, 2}, []api.File{fileOf(t, 1, 1), fileOf(t, 2)}},
		{"the only one has nothing good", []api.File{with(fileOf(t, 1), junk(600))}, 0, nil, 1, []uint64{1}, []api.File{fileOf(t, 1)}},
		{"the first can't be read", []api.File{with(fileOf(t, 1, 1, 1), nil, 0), fileOf(t, 3, 1)}, 0, nil, 1, []uint64{1}, []api.File{fileOf(t, 1)}},
		{"the second sector can't be read", []api.File{with(fileOf(t, 1, 1, 1), nil, 1), fileOf(t, 2, 1), fileOf(t, 3, 1)}, 0, recordsOf(1, 1, 1), 2, []uint64{1}, []api.File{fileOf(t, 1, 1)}},
		{"a sector in the last can't be read", []api.File{fileOf(t, 1, 1, 1), with(fileOf(t, 3, 1, 1, 1), nil, 1)}, 0, [][]byte{numbered(1, 1), numbered(1, 2), numbered(3, 3)}, 4, []uint64{1, 3}, []api.File{fileOf(t, 1, 1, 1), fileOf(t, 3, 1)}},
		{"behind a record in the midst of a block", []api.File{fileOf(t, 1, 3, 2), fileOf(t, 6, 2)}, 2, slices.Concat(recordsOf(1, 3, 5), recordsOf(6, 6, 7)), 8, []uint64{1, 6}, []api.File{fileOf(t, 1, 3, 2), fileOf(t, 6, 2)}},
		{"behind the first segment", []api.File{fileOf(t, 1, 3, 2), fileOf(t, 6, 2)}, 5, recordsOf(6, 6, 7), 8, []uint64{1, 6}, []api.File{fileOf(t, 1, 3, 2), fileOf(t, 6, 2)}},
		{"behind all but the last record", []api.File{fileOf(t, 1, 3, 2), fileOf(t, 6, 2)}, 6, recordsOf(6, 7, 7), 8, []uint64{1, 6}, []api.File{fileOf(t, 1, 3, 2), fileOf(t, 6, 2)}},
		{"behind all records", []api.File{fileOf(t, 1, 3, 2), fileOf(t, 6, 2)}, 7, nil, 8, []uint64{1, 6}, []api.File{fileOf(t, 1, 3, 2), fileOf(t, 6, 2)}},
		{"one behind all records", []api.File{fileOf(t, 1, 3, 2), fileOf(t, 6, 2)}, 8, nil, 9, []uint64{9}, []api.File{fileOf(t, 9)}},
		{"far behind all records", []api.File{fileOf(t, 1, 3, 2), fileOf(t, 6, 2)}, 1000, nil, 1001, []uint64{1001}, []api.File{fileOf(t, 1001)}},
		{"behind a fault", []api.File{with(fileOf(t, 1, 2), junk(9)), fileOf(t, 3, 2)}, 3, nil, 4, []uint64{4}, []api.File{fileOf(t, 4)}},
		{"up to a fault", []api.File{with(fileOf(t, 1, 2), junk(9)), fileOf(t, 3, 2)}, 2, nil, 3, []uint64{1}, []api.File{fileOf(t, 1, 2)}},
		{"one of those that aren't good has the new number", []api.File{with(fileOf(t, 1, 2), junk(9)), fileOf(t, 4, 2)}, 3, nil, 4, []uint64{4}, []api.File{fileOf(t, 4)}},
		{"the first is just after + 1", []api.File{fileOf(t, 9, 2)}, 8, recordsOf(9, 9, 10), 11, []uint64{9}, []api.File{fileOf(t, 9, 2)}},
		{"the first is below after + 1", []api.File{fileOf(t, 9, 2)}, 9, recordsOf(9, 10, 10), 11, []uint64{9}, []api.File{fileOf(t, 9, 2)}},
	} {
		for _, blocks := range []int{1, 2, 1024} {
			d := loaded(t, imageOf(row.files...))
			w := opened(t, row.what, d, row.after, blocks, row.records)
			expectLog(t, row.what, w, row.next, row.next-1, false, row.segments...)
			if sectors, names := d.Waiting(); sectors+names > 0 || !sameImage(d.Seen(), imageOf(row.left...)) || !sameImage(d.Safe(), d.Seen()) {
				t.Errorf("P10.1: %s: behind Open the disk has %s", row.what, tellDisk(d))
			}
			appended(t, w, "new", row.next)
		}
	}
}

// TestOpenRefused: what is outside is refused ahead of the disk; of a nil disk the error is ErrNil ahead of all else.
func TestOpenRefused(t *testing.T) {
	for _, files := range [][]api.File{nil, {fileOf(t, 1, 2, 1), fileOf(t, 4)}, {fileOf(t, 9, 1)}} {
		for _, row := range []struct {
			after  uint64
			blocks int
		}{
			{0, 0}, {0, -1}, {0, 1025}, {0, math.MinInt}, {0, math.MaxInt}, {maxLsn, 0}, {maxLsn, 1025},
			{maxLsn + 1, 1}, {maxLsn + 2, 1024}, {1 << 63, 2}, {math.MaxUint64 - 1, 2}, {math.MaxUint64, 2}, {math.MaxUint64, 0},
		} {
			d := loaded(t, imageOf(files...))
			d.Arm([]api.Fail{{At: 1}}, 2)
			refused(t, "outside", d, row.after, row.blocks, api.ErrArg)
			expectDisk(t, "outside", d, loaded(t, imageOf(files...)))
			refused(t, "a nil disk", nil, row.after, row.blocks, api.ErrNil)
			expectErr(t, "the first operation behind a refused Open", d.SyncNames(), api.ErrIo)
			expectErr(t, "the second operation behind a refused Open", d.SyncNames(), api.ErrDown)
			refused(t, "outside, the power off", d, row.after, row.blocks, api.ErrArg)
		}
	}
	refused(t, "a nil disk", nil, 0, 1, api.ErrNil)
	refused(t, "a nil disk", nil, maxLsn, 1024, api.ErrNil)
}

// TestOpenOfBlocks: of what blocks may be, every number is taken.
func TestOpenOfBlocks(t *testing.T) {
	for blocks := 1; blocks <= 1024; blocks++ {
		opened(t, "an empty disk", disk.New(), 0, blocks, nil)
	}
}

func TestOpenOfAGap(t *testing.T) {
	for _, row := range []struct{ first, after uint64 }{{2, 0}, {3, 0}, {3, 1}, {maxLsn, 0}, {maxLsn, maxLsn - 2}, {maxLsn - 1, maxLsn - 3}} {
		// A first one that isn't whole, or other files beside it, change nothing.
		for _, files := range [][]api.File{{fileOf(t, row.first)}, {fileOf(t, row.first, 1)}, {with(fileOf(t, row.first), junk(5))}, {fileOf(t, row.first), {Name: "log"}, {Name: plainName(0)}}} {
			at := fmt.Sprintf("first %d, after %d", row.first, row.after)
			d := loaded(t, imageOf(files...))
			d.Arm(nil, 1)
			refused(t, at, d, row.after, 2, api.ErrGap)
			expectDisk(t, at, d, loaded(t, imageOf(files...)))
		}
		at := fmt.Sprintf("first %d, after %d", row.first, row.first-1)
		w := opened(t, at, loaded(t, imageOf(fileOf(t, row.first))), row.first-1, 2, nil)
		expectLog(t, at, w, row.first, row.first-1, false, row.first)
	}
	far := imageOf(fileOf(t, 7, 1), fileOf(t, 8, 1))
	refused(t, "two behind a gap", loaded(t, far), 5, 2, api.ErrGap)
	opened(t, "two without a gap", loaded(t, far), 6, 2, [][]byte{numbered(7, 7), numbered(8, 8)})
}

// TestOpenWithThePowerOff: ErrDown, also where there is a gap, or no number for a new segment.
func TestOpenWithThePowerOff(t *testing.T) {
	for _, files := range [][]api.File{nil, {fileOf(t, 1, 1)}, {fileOf(t, 9, 1)}} {
		for _, after := range []uint64{0, 1, maxLsn} {
			d := loaded(t, imageOf(files...))
			d.Arm(nil, 1)
			expectErr(t, "SyncNames", d.SyncNames(), api.ErrDown)
			refused(t, "the power off", d, after, 1, api.ErrDown)
			if d.Ops() != 1 {
				t.Errorf("P10.1: with the power off Open takes %d operations", d.Ops()-1)
			}
		}
	}
}

func TestOpenAtTheLastNumbers(t *testing.T) {
	d := disk.New()
	refused(t, "no number for a new segment", d, maxLsn, 1, api.ErrArg)
	expectDisk(t, "no number for a new segment", d, disk.New())

	// The older segments are gone for good all the same.
	older := imageOf(fileOf(t, 5, 1), fileOf(t, 6, 1), api.File{Name: "other"})
	d = loaded(t, older)
	refused(t, "no number for a new segment, older ones there", d, maxLsn, 1, api.ErrArg)
	want := loaded(t, older)
	expectErr(t, "by hand", play(want, remove(6), remove(5), syncNames()), nil)
	expectDisk(t, "no number for a new segment, older ones there", d, want)

	w := opened(t, "the last number", disk.New(), maxLsn-1, 1, nil)
	expectLog(t, "the last number", w, maxLsn, maxLsn-1, false, maxLsn)

	for _, after := range []uint64{maxLsn - 2, maxLsn - 1, maxLsn} {
		d = loaded(t, imageOf(fileOf(t, maxLsn-1, 1, 1)))
		w = opened(t, "a log up to the last number", d, after, 9, recordsOf(maxLsn-1, after+1, maxLsn))
		expectLog(t, "a log up to the last number", w, maxLsn+1, maxLsn, false, maxLsn-1)
	}
	d = loaded(t, imageOf(fileOf(t, maxLsn-1, 1), with(fileOf(t, maxLsn, 1), junk(512), 1)))
	w = opened(t, "two segments up to the last number", d, maxLsn, 9, nil)
	expectLog(t, "two segments up to the last number", w, maxLsn+1, maxLsn, false, maxLsn-1, maxLsn)
	d = loaded(t, imageOf(fileOf(t, maxLsn-1, 1)))
	refused(t, "a log up to the last number but one", d, maxLsn, 9, api.ErrArg)
}

// notSegments are files that are let by.
func notSegments() []api.File {
	var list []api.File
	for _, name := range []string{"a", "log", "log.", "log.1", "log.0000000000000000", "log.00000000000000FF", "log.000000000000002", "log.00000000000000002", "log.0000000000000002 ",
		"log.000000000000000g", "log.4000000000000001", "log.8000000000000000", "log.ffffffffffffffff", "Log.0000000000000002", "snap.0000000000000002", "temp", "\x00", "\xff\xff"} {
		list = append(list, api.File{Name: name, Data: junk(700), Bad: []int{1}})
	}
	return list
}

func TestOpenLetsOtherFilesBy(t *testing.T) {
	for _, files := range [][]api.File{nil, {fileOf(t, 1, 1, 1), fileOf(t, 3, 1)}, {with(fileOf(t, 1, 1), junk(512)), fileOf(t, 2, 1), fileOf(t, 9)}} {
		for _, after := range []uint64{0, 2, 77} {
			at := fmt.Sprintf("other files, after %d", after)
			alone := loaded(t, imageOf(files...))
			beside := loaded(t, imageOf(slices.Concat(files, notSegments())...))
			// What waits of other files goes on waiting, but the names: these are made safe together.
			for _, d := range []*disk.Disk{alone, beside} {
				expectErr(t, "Create", d.Create("waiting"), nil)
				expectErr(t, "Append", d.Append("waiting", junk(600)), nil)
			}
			x := &pair{d: beside, other: loaded(t, imageOf(slices.Concat(files, notSegments())...))}
			expectErr(t, "Create", x.other.Create("waiting"), nil)
			expectErr(t, "Append", x.other.Append("waiting", junk(600)), nil)
			records, err := x.open(t, after, 2)
			expectErr(t, at, err, nil)
			w := opened(t, at, alone, after, 2, records)
			expectLog(t, at, x.w, w.Next(), w.Safe(), false, w.Segments()...)
			for _, f := range notSegments() {
				if data, bad, err := beside.Read(f.Name); len(data) != 700 || !slices.Equal(bad, f.Bad) || err != nil {
					t.Errorf("P10.1: %s: behind Open %q has %d bytes, bad %v, %v", at, f.Name, len(data), bad, err)
				}
			}
			if sectors, names := beside.Waiting(); sectors != 2 || names != 0 {
				t.Errorf("P10.1: %s: behind Open %d sectors and %d names wait", at, sectors, names)
			}
			if alone.Ops() != beside.Ops() {
				t.Errorf("P10.1: %s: Open takes %d operations, without the other files %d", at, beside.Ops(), alone.Ops())
			}
		}
	}
}

// kinds are the segments of which every short row is made; the number behind them is that of the records which they would have if all were good.
func kinds(t *testing.T, first uint64) ([]api.File, []uint64) {
	t.Helper()
	two := fileOf(t, first, 2, 1)
	return []api.File{fileOf(t, first), fileOf(t, first, 1), two, with(two, junk(5)), with(two, packed(t, first+3, texts("z")), 2), with(two, nil, 0), with(fileOf(t, first), make([]byte, 512))},
		[]uint64{first, first + 1, first + 3, first + 3, first + 4, first + 3, first + 1}
}

// everyRow gives every row of so many segments, the first from number 5 on, each other one joining the one ahead of it, a number behind it or a number too early.
func everyRow(t *testing.T, size int, do func([]api.File)) {
	t.Helper()
	var grow func(files []api.File, last, next uint64)
	grow = func(files []api.File, last, next uint64) {
		if len(files) == size {
			do(slices.Clone(files))
			return
		}
		for _, first := range []uint64{next - 1, next, next + 1} {
			if first <= last || len(files) == 0 && first != next {
				continue
			}
			list, behind := kinds(t, first)
			for i, f := range list {
				grow(append(files[:len(files):len(files)], f), first, behind[i])
			}
		}
	}
	grow(nil, 0, 5)
}

// TestOpenOfEveryShortRow holds each against the plain one's answers and all that its disk has.
func TestOpenOfEveryShortRow(t *testing.T) {
	met := map[string]int{}
	for size, afters := range [][]uint64{{0, 4, 5}, {3, 4, 5, 6, 7, 8, 9, 10}, {3, 4, 5, 6, 7, 8, 9, 10, 11, 12}, {4, 8, 10}} {
		everyRow(t, size, func(files []api.File) {
			for _, after := range afters {
				x := pairOf(t, imageOf(files...))
				_, err := x.open(t, after, 2)
				if err != nil {
					met[err.Error()]++
					continue
				}
				met[fmt.Sprint("segments ", len(x.w.Segments()))]++
				expectErr(t, "Append", x.call(t, add([]byte("new"))), nil)
			}
		})
	}
	for _, kind := range []string{api.ErrGap.Error(), "segments 1", "segments 2", "segments 3"} {
		if met[kind] < 50 {
			t.Errorf("of the rows %d alone are of the kind %q", met[kind], kind)
		}
	}
}

// TestOpenSeesWhatWaits: Open goes by names and bytes as seen, and makes them safe.
func TestOpenSeesWhatWaits(t *testing.T) {
	d := waiting(t)
	w := opened(t, "all waits", d, 0, 2, slices.Concat(recordsOf(1, 1, 2), recordsOf(3, 3, 4), recordsOf(5, 5, 5)))
	expectLog(t, "all waits", w, 6, 5, false, 1, 3, 5)
	if sectors, names := d.Waiting(); sectors != 0 || names != 0 {
		t.Errorf("P10.1: behind Open %d sectors and %d names wait", sectors, names)
	}
}
