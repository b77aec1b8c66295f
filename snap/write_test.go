package snap_test

import (
	"bytes"
	"testing"

	"turnstile/api"
)

// disksAhead are rows of files over which a snapshot is written: without "temp" and with it, with snapshots of lower, of the same and of higher numbers, with files of other names.
func disksAhead(t *testing.T, s api.State) [][]api.File {
	t.Helper()
	begun := api.File{Name: "temp", Data: []byte("begun")}
	begunWhole := named(fileOf(t, at(last)), "temp")
	begunBad := api.File{Name: "temp", Data: make([]byte, 700), Bad: []int{0, 1}}
	rows := [][]api.File{
		nil,
		{begun},
		{{Name: "temp"}},
		{begunWhole},
		{begunBad},
		{{Name: "a", Data: []byte("a")}, {Name: "log.0000000000000001", Data: make([]byte, 512)}, {Name: "zz"}},
		{fileOf(t, at(3)), fileOf(t, at(4))},
		{fileOf(t, at(3)), fileOf(t, at(1<<40)), begun},
		{fileOf(t, s)},
		{fileOf(t, other(s)), begun},
		{named(fileOf(t, at(3)), plainName(s.Lsn)), begunWhole},
		{{Name: plainName(s.Lsn)}, begunBad},
		otherFiles(t),
		append(otherFiles(t), begun, fileOf(t, other(s))),
	}
	spoilt := fileOf(t, s)
	spoilt.Bad = []int{0}
	return append(rows, []api.File{spoilt})
}

func hasBegun(files []api.File) bool {
	for _, f := range files {
		if f.Name == "temp" {
			return true
		}
	}
	return false
}

// TestWrite: the disk is behind it as behind the chapter's operations, nothing waits, and the snapshot is there, its bytes those of layer 14.
func TestWrite(t *testing.T) {
	for _, s := range smallStates() {
		for _, files := range disksAhead(t, s) {
			x := pairOf(t, files...)
			_, err := x.call(t, write(s))
			expectErr(t, "P15.2: "+x.String(), err, nil)
			expectWritten(t, x, s)
			want := 5
			if hasBegun(files) {
				want = 6
			}
			if x.d.Ops() != want {
				t.Errorf("P15.2: %s counts %d operations, want %d", x, x.d.Ops(), want)
			}
		}
	}
}

// expectWritten: the snapshot of s is safe, "temp" isn't there, nothing waits.
func expectWritten(t *testing.T, x *pair, s api.State) {
	t.Helper()
	sectors, names := x.d.Waiting()
	if sectors != 0 || names != 0 {
		t.Fatalf("P15.2: %s: %d sectors and %d changes of names wait", x, sectors, names)
	}
	found := false
	for _, f := range x.d.Safe().Files {
		if f.Name == "temp" {
			t.Fatalf("P15.2: %s: temp is left behind", x)
		}
		if f.Name == plainName(s.Lsn) {
			found = bytes.Equal(f.Data, bytesOf(t, s)) && len(f.Bad) == 0
		}
	}
	if !found {
		t.Fatalf("P15.2: %s: the snapshot isn't safe: %s", x, tellDisk(x.d))
	}
}

// TestWriteOfFullStates: of hundreds of sectors.
func TestWriteOfFullStates(t *testing.T) {
	for _, s := range fullStates() {
		x := pairOf(t, fileOf(t, at(5)), api.File{Name: "temp"})
		_, err := x.call(t, write(s))
		expectErr(t, "P15.2: "+x.String(), err, nil)
		expectWritten(t, x, s)
		expectNewest(t, x.String(), x.d, s)
	}
}

// TestOperationsOfWrite: whenever the power goes, the disk is left as the chapter's operations, one by one, leave it.
func TestOperationsOfWrite(t *testing.T) {
	for _, s := range smallStates() {
		for _, files := range disksAhead(t, s) {
			expectOperations(t, files, write(s), writeOperations(s, bytesOf(t, s), hasBegun(files)))
		}
	}
}

// TestWriteWhereThingsWait: what waited of the names is safe behind it, of other files' sectors it still waits.
func TestWriteWhereThingsWait(t *testing.T) {
	s := at(5)
	for _, ahead := range [][]operation{
		{create("temp")},
		{create("temp"), put("temp", []byte("begun"))},
		{create("temp"), put("temp", []byte("begun")), syncOf("temp")},
		{create("temp"), rename("temp", "a"), put("a", []byte("a"))},
		{create("a"), put("a", make([]byte, 900)), create("b")},
		{create(plainName(5)), put(plainName(5), []byte("waits"))},
		{create(plainName(5)), put(plainName(5), []byte("waits")), syncNames(), create("temp"), put("temp", []byte("waits"))},
		{create("temp"), syncNames(), remove("temp")},
		{create("temp"), put("temp", bytesOf(t, s)), syncOf("temp"), rename("temp", plainName(5)), remove(plainName(5))},
	} {
		for cut := range 8 {
			x := pairOf(t, fileOf(t, at(3)))
			for _, o := range ahead {
				_, err := x.call(t, ofDisk(o))
				expectErr(t, x.String(), err, nil)
			}
			x.call(t, arm(cut))
			x.call(t, write(s))
			if !x.d.Down() {
				expectNewest(t, x.String(), x.d, s)
				expectNewest(t, x.String()+", a loss", loaded(t, x.d.Safe().Files...), s)
			}
		}
	}
}

// TestWritesOneBehindTheOther: rising, falling, and of one number again.
func TestWritesOneBehindTheOther(t *testing.T) {
	x := pairOf(t)
	greatest := api.State{}
	for _, lsn := range []uint64{0, 3, 5, 4, 5, 1, 5, 0, 9, 8, 9, 255, 16, 10, last - 1, 256, last, last - 1} {
		for _, s := range []api.State{at(lsn), other(at(lsn)), sized(lsn, 1100), at(lsn)} {
			_, err := x.call(t, write(s))
			expectErr(t, "P15.2: "+x.String(), err, nil)
			if s.Lsn >= greatest.Lsn {
				greatest = s
			}
			expectNewest(t, x.String(), x.d, greatest)
			expectNewest(t, x.String()+", a loss", loaded(t, x.d.Safe().Files...), greatest)
		}
	}
}
