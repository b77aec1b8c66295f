package snap_test

import (
	"slices"
	"testing"

	"turnstile/api"
	"turnstile/disk"
	"turnstile/snap"
)

// manySnapshots are good ones and others, with these numbers.
func manySnapshots(t *testing.T) ([]api.File, []uint64) {
	t.Helper()
	numbers := []uint64{0, 1, 2, 9, 10, 16, 255, 256, 1<<62 - 1, 1 << 62}
	var files []api.File
	for i, lsn := range numbers {
		f := fileOf(t, at(lsn))
		if i%3 == 2 {
			f = badFiles(t, lsn)[i%20]
		}
		files = append(files, f)
	}
	return files, numbers
}

// keeps are each of these numbers, and those beside it, and the ends.
func keeps(numbers []uint64) []uint64 {
	list := []uint64{0, 1, m, m - 1, last + 1, 1 << 63}
	for _, n := range numbers {
		list = append(list, n, n+1)
		if n > 0 {
			list = append(list, n-1)
		}
	}
	slices.Sort(list)
	return slices.Compact(list)
}

// TestClean: with every number to keep, without "temp" and with it, beside files of other names; called again it does nothing.
func TestClean(t *testing.T) {
	snapshots, numbers := manySnapshots(t)
	for _, keep := range keeps(numbers) {
		for _, more := range [][]api.File{nil, {{Name: "temp"}}, {named(fileOf(t, at(5)), "temp")}, otherFiles(t), append(otherFiles(t), api.File{Name: "temp", Data: []byte("begun")})} {
			x := pairOf(t, append(slices.Clone(snapshots), more...)...)
			_, err := x.call(t, clean(keep))
			expectErr(t, "P15.4: "+x.String(), err, nil)
			expectCleaned(t, x, keep, numbers)
			expectNewest(t, x.String()+", a loss", loaded(t, x.d.Safe().Files...), newestFrom(numbers, keep, snapshots))
			ops := x.d.Ops()
			_, err = x.call(t, clean(keep))
			expectErr(t, "P15.4: "+x.String(), err, nil)
			if x.d.Ops() != ops {
				t.Errorf("P15.4: %s: the last call counts %d operations, want none", x, x.d.Ops()-ops)
			}
		}
	}
}

// expectCleaned: the snapshots from keep on are there, the others and "temp" aren't, and nothing waits.
func expectCleaned(t *testing.T, x *pair, keep uint64, numbers []uint64) {
	t.Helper()
	names, _ := x.d.Names()
	for _, lsn := range numbers {
		if there := slices.Contains(names, plainName(lsn)); there != (lsn >= keep) {
			t.Fatalf("P15.4: %s: the snapshot %d is there: %v", x, lsn, there)
		}
	}
	if slices.Contains(names, "temp") {
		t.Fatalf("P15.4: %s: temp is left behind", x)
	}
	if sectors, changes := x.d.Waiting(); sectors+changes > 0 {
		t.Fatalf("P15.4: %s: %d sectors and %d changes of names wait", x, sectors, changes)
	}
}

// newestFrom is the state of the good snapshot with the greatest number, if that is keep or more.
func newestFrom(numbers []uint64, keep uint64, files []api.File) api.State {
	newest := api.State{}
	for i, lsn := range numbers {
		if s, good := plainGood(files[i]); good && lsn >= keep {
			newest = s
		}
	}
	return newest
}

// TestCleanOfNothing: no operation where there is nothing to remove.
func TestCleanOfNothing(t *testing.T) {
	for _, files := range [][]api.File{nil, otherFiles(t), {fileOf(t, at(last))}} {
		for _, keep := range []uint64{0, 1, 5, last} {
			d := loaded(t, files...)
			expectErr(t, "P15.4: Clean", snap.Clean(d, keep), nil)
			expectDisk(t, "Clean of nothing", d, loaded(t, files...))
		}
	}
	d := disk.New()
	expectErr(t, "P15.4: Clean", snap.Clean(d, m), nil)
	expectDisk(t, "Clean of a new disk", d, disk.New())
}

// TestOperationsOfClean: whenever the power goes, the disk is left as the chapter's operations, in the order of the names, leave it.
func TestOperationsOfClean(t *testing.T) {
	snapshots, _ := manySnapshots(t)
	for _, files := range [][]api.File{snapshots, append(slices.Clone(snapshots), api.File{Name: "temp"}), {{Name: "temp"}}, append(otherFiles(t), snapshots[3:6]...)} {
		names, _ := loaded(t, files...).Names()
		for _, keep := range []uint64{1, 10, 256, last, m} {
			expectOperations(t, files, clean(keep), cleanOperations(names, keep))
		}
	}
}

// TestTheOrderOfClean is written out: "temp" comes behind the snapshots.
func TestTheOrderOfClean(t *testing.T) {
	d := loaded(t, fileOf(t, at(16)), fileOf(t, at(9)), fileOf(t, at(10)), api.File{Name: "temp"}, fileOf(t, at(17)))
	d.Arm(nil, 5)
	expectErr(t, "P15.4: Clean", snap.Clean(d, 17), api.ErrDown)
	rows := [][]string{
		{plainName(9), plainName(10), plainName(16), plainName(17), "temp"},
		{plainName(10), plainName(16), plainName(17), "temp"},
		{plainName(16), plainName(17), "temp"},
		{plainName(17), "temp"},
		{plainName(17)},
	}
	for made, want := range rows {
		expectNames(t, "P15.4: behind a loss", loaded(t, d.Crash(fates(made)).Files...), want...)
	}
}

// TestCleanWhereThingsWait: SyncNames makes the other changes of names safe as well, but only where something was removed.
func TestCleanWhereThingsWait(t *testing.T) {
	for _, ahead := range [][]operation{
		{create("a"), put("a", make([]byte, 900))},
		{create("temp"), put("temp", []byte("begun"))},
		{create(plainName(2)), put(plainName(2), bytesOf(t, at(2))), remove(plainName(3))},
		{rename(plainName(3), plainName(5))},
		{rename(plainName(3), "temp")},
	} {
		for _, keep := range []uint64{0, 2, 3, 4, 5, 6} {
			for cut := range 4 {
				x := pairOf(t, fileOf(t, at(3)), fileOf(t, at(4)))
				for _, o := range ahead {
					_, err := x.call(t, ofDisk(o))
					expectErr(t, x.String(), err, nil)
				}
				x.call(t, arm(cut))
				x.call(t, clean(keep))
				x.call(t, newest())
			}
		}
	}
}
