package wal_test

import (
	"fmt"
	"slices"
	"testing"

	"turnstile/api"
	"turnstile/disk"
	"turnstile/wal"
)

// waiting is a disk with the segments 1, 3 and 5, of which nothing is safe.
func waiting(t *testing.T) *disk.Disk {
	t.Helper()
	d := disk.New()
	for _, f := range []api.File{fileOf(t, 1, 1, 1), fileOf(t, 3, 2), fileOf(t, 5, 1)} {
		expectErr(t, "Create", d.Create(f.Name), nil)
		expectErr(t, "Append", d.Append(f.Name, f.Data), nil)
	}
	return d
}

// expectOperations expects a call to do just these operations, in this order, and to answer want: undisturbed; with the power lost in each of them and in the next one; and with each of them failing behind some bytes.
func expectOperations(t *testing.T, at string, begin func() (*disk.Disk, func() error), want error, operations ...operation) {
	t.Helper()
	for number := range len(operations) + 2 {
		for _, part := range []int{-2, -1, 0, 100, 512} {
			at := fmt.Sprintf("%s, number %d disturbed, %d", at, number, part)
			d, call := begin()
			other, _ := begin()
			ahead := d.Ops()
			for _, one := range []*disk.Disk{d, other} {
				if part == -2 {
					one.Arm(nil, number)
				} else {
					one.Arm([]api.Fail{{At: number, Part: part}}, 0)
				}
			}
			err, wantErr := call(), play(other, operations...)
			if wantErr == nil {
				wantErr = want
			}
			expectErr(t, "P10.1: "+at, err, wantErr)
			expectDisk(t, at, d, other)
			if number == 0 && d.Ops() != ahead+len(operations) {
				t.Fatalf("P10.1: %s: there are %d operations, want %d", at, d.Ops()-ahead, len(operations))
			}
		}
	}
}

func TestOperationsOfOpen(t *testing.T) {
	three := []api.File{fileOf(t, 1, 1, 1), fileOf(t, 3, 2), fileOf(t, 5, 1)}
	for _, row := range []struct {
		what       string
		files      []api.File
		ahead      []operation // what waits
		after      uint64
		want       error
		operations []operation
	}{
		{"an empty disk", nil, nil, 0, nil, []operation{create(1), syncNames(), syncOf(1), syncNames()}},
		{"an empty disk, behind 41", nil, nil, 41, nil, []operation{create(42), syncNames(), syncOf(42), syncNames()}},
		{"an empty segment", []api.File{fileOf(t, 1)}, nil, 0, nil, []operation{syncOf(1), syncNames()}},
		{"three segments", three, nil, 0, nil, []operation{syncOf(1), syncOf(3), syncOf(5), syncNames()}},
		{"three segments, behind them", three, nil, 5, nil, []operation{syncOf(1), syncOf(3), syncOf(5), syncNames()}},
		{"three segments that wait", nil, []operation{create(1), put(1, three[0].Data), create(3), put(3, three[1].Data), create(5), put(5, three[2].Data)}, 0, nil,
			[]operation{syncOf(1), syncOf(3), syncOf(5), syncNames()}},
		{"three segments that were made in another order", nil, []operation{create(5), put(5, three[2].Data), create(3), put(3, three[1].Data), create(1), put(1, three[0].Data)}, 0, nil,
			[]operation{syncOf(1), syncOf(3), syncOf(5), syncNames()}},
		{"the last one isn't whole", append(slices.Clone(three[:2]), with(fileOf(t, 5, 1), junk(700))), nil, 0, nil,
			[]operation{truncate(5, 512), syncOf(1), syncOf(3), syncOf(5), syncNames()}},
		{"the last one has nothing good", append(slices.Clone(three[:2]), with(fileOf(t, 5), junk(700))), nil, 0, nil,
			[]operation{truncate(5, 0), syncOf(1), syncOf(3), syncOf(5), syncNames()}},
		{"the first one isn't whole", append(slices.Clone(three[1:]), with(three[0], junk(1))), nil, 0, nil,
			[]operation{remove(5), remove(3), syncNames(), truncate(1, 1024), syncOf(1), syncNames()}},
		{"what isn't whole waits", three, []operation{put(3, junk(600)), put(5, fileOf(t, 5, 1).Data)}, 0, nil,
			[]operation{remove(5), syncNames(), truncate(3, 512), syncOf(1), syncOf(3), syncNames()}},
		{"a gap", []api.File{three[0], three[1], fileOf(t, 6, 1), fileOf(t, 7, 1), fileOf(t, 20, 1)}, nil, 0, nil,
			[]operation{remove(20), remove(7), remove(6), syncNames(), syncOf(1), syncOf(3), syncNames()}},
		{"a gap behind what waits", []api.File{three[0], fileOf(t, 6, 1), fileOf(t, 9, 1)}, []operation{create(3), put(3, three[1].Data)}, 0, nil,
			[]operation{remove(9), remove(6), syncNames(), syncOf(1), syncOf(3), syncNames()}},
		{"all are older", three, nil, 20, nil, []operation{remove(5), remove(3), remove(1), syncNames(), create(21), syncNames(), syncOf(21), syncNames()}},
		{"all are older, and others not good", append(slices.Clone(three), fileOf(t, 9, 1), fileOf(t, 21, 1)), nil, 20, nil,
			[]operation{remove(21), remove(9), remove(5), remove(3), remove(1), syncNames(), create(21), syncNames(), syncOf(21), syncNames()}},
		{"an older one that isn't whole", []api.File{with(three[0], junk(600))}, nil, 3, nil, []operation{remove(1), syncNames(), create(4), syncNames(), syncOf(4), syncNames()}},
		{"no number for a new one", nil, nil, maxLsn, api.ErrArg, nil},
		{"no number for a new one, older ones there", three, nil, maxLsn, api.ErrArg, []operation{remove(5), remove(3), remove(1), syncNames()}},
		{"records are missing", three[1:], nil, 1, api.ErrGap, nil},
		{"names wait", three, []operation{remove(1), create(2)}, 1, nil, []operation{remove(5), remove(3), syncNames(), syncOf(2), syncNames()}},
	} {
		expectOperations(t, "Open: "+row.what, func() (*disk.Disk, func() error) {
			d := loaded(t, imageOf(row.files...))
			expectErr(t, row.what, play(d, row.ahead...), nil)
			return d, func() error {
				w, records, err := wal.Open(d, row.after, 2)
				if (w == nil) != (err != nil) || err != nil && len(records) > 0 {
					t.Fatalf("P10.1: %s: Open answers %v, %s, %v", row.what, w, tellRecords(records), err)
				}
				return err
			}
		}, row.want, row.operations...)
	}
}

func TestOperationsOfCalls(t *testing.T) {
	block := func(number uint64, record string) []byte { return packed(t, number, texts(record)) }
	for _, row := range []struct {
		what       string
		ahead      []call // behind an Open of an empty disk, blocks 2
		call       call
		want       error
		operations []operation
	}{
		{"the first record", nil, add([]byte("a")), nil, []operation{put(1, block(1, "a"))}},
		{"a record of no byte", nil, add(nil), nil, []operation{put(1, block(1, ""))}},
		{"the second record", []call{add([]byte("a"))}, add([]byte("b")), nil, []operation{put(1, block(2, "b"))}},
		{"a record too long", []call{add([]byte("a"))}, add(junk(201)), api.ErrLong, nil},
		{"a record too long for a full segment", []call{add([]byte("a")), add([]byte("b"))}, add(junk(201)), api.ErrLong, nil},
		{"a full segment", []call{add([]byte("a")), add([]byte("b"))}, add([]byte("c")), nil, []operation{syncOf(1), create(3), syncNames(), put(3, block(3, "c"))}},
		{"a full segment that is safe", []call{add([]byte("a")), add([]byte("b")), syncAll()}, add([]byte("c")), nil, []operation{syncOf(1), create(3), syncNames(), put(3, block(3, "c"))}},
		{"a second full segment", []call{add([]byte("a")), add([]byte("b")), add([]byte("c")), add([]byte("d"))}, add(nil), nil, []operation{syncOf(3), create(5), syncNames(), put(5, block(5, ""))}},
		{"Sync of nothing", nil, syncAll(), nil, []operation{syncOf(1)}},
		{"Sync", []call{add([]byte("a"))}, syncAll(), nil, []operation{syncOf(1)}},
		{"Sync of the last one", []call{add([]byte("a")), add([]byte("b")), add([]byte("c"))}, syncAll(), nil, []operation{syncOf(3)}},
		{"Sync behind a Sync", []call{add([]byte("a")), syncAll()}, syncAll(), nil, []operation{syncOf(1)}},
		{"Drop of an only one", []call{add([]byte("a"))}, drop(1), nil, nil},
		{"Drop of none", []call{add([]byte("a")), add([]byte("b")), add([]byte("c"))}, drop(1), nil, nil},
		{"Drop of one", []call{add([]byte("a")), add([]byte("b")), add([]byte("c"))}, drop(2), nil, []operation{remove(1), syncNames()}},
		{"Drop of all but the last", []call{add([]byte("a")), add([]byte("b")), add([]byte("c")), add([]byte("d")), add([]byte("e"))}, drop(1<<64 - 1), nil, []operation{remove(1), remove(3), syncNames()}},
		{"Drop behind a Drop", []call{add([]byte("a")), add([]byte("b")), add([]byte("c")), add([]byte("d")), add([]byte("e")), drop(2)}, drop(4), nil, []operation{remove(3), syncNames()}},
		{"the same Drop again", []call{add([]byte("a")), add([]byte("b")), add([]byte("c")), drop(2)}, drop(2), nil, nil},
	} {
		expectOperations(t, row.what, func() (*disk.Disk, func() error) {
			w, d := begun(t, 2)
			for _, c := range row.ahead {
				_, err := c.on(w)
				expectErr(t, c.String(), err, nil)
			}
			return d, func() error {
				_, err := row.call.on(w)
				return err
			}
		}, row.want, row.operations...)
	}
}

// TestAnswersAreNoOperations: what only answers neither counts, nor meets what is armed.
func TestAnswersAreNoOperations(t *testing.T) {
	w, d := begun(t, 2, "a", "b", "c")
	same, other := begun(t, 2, "a", "b", "c")
	d.Arm([]api.Fail{{At: 1}}, 2)
	for range 3 {
		expectLog(t, "with failures armed", w, same.Next(), same.Safe(), false, 1, 3)
		expectDisk(t, "with failures armed", d, other)
	}
	expectErr(t, "the first operation", d.SyncNames(), api.ErrIo)
	expectErr(t, "the second operation", d.SyncNames(), api.ErrDown)
	expectLog(t, "with the power off, not met yet", w, 4, 2, false, 1, 3)
	expectErr(t, "Drop of none with the power off", w.Drop(0), nil)
	if _, err := w.Append(junk(201)); err != api.ErrLong || w.Sick() {
		t.Errorf("P10.1: a record too long with the power off: %v", err)
	}
	expectErr(t, "Sync with the power off", w.Sync(), api.ErrDown)
	expectLog(t, "with the power off", w, 4, 2, true, 1, 3)
}
