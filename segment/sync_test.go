package segment_test

import (
	"fmt"
	"testing"

	"turnstile/api"
	"turnstile/disk"
	"turnstile/segment"
)

func TestSync(t *testing.T) {
	d, want := disk.New(), disk.New()
	s, same := created(t, d, 7), created(t, want, 7)
	for round := range 4 {
		at := fmt.Sprintf("P9.7: Sync behind %d Appends", 2*round)
		expectErr(t, at, s.Sync(), nil)
		expectErr(t, at, want.Sync(plainName(7)), nil)
		expectState(t, at, s, 7+uint64(6*round), 4*round, true)
		expectDisk(t, at, d, want)
		if sectors, names := d.Waiting(); sectors != 0 || names != 0 {
			t.Errorf("%s: %d sectors and %d names wait", at, sectors, names)
		}
		for _, records := range [][][]byte{sized(200, 200, 200, 200, 200), texts("x")} {
			expectErr(t, "P9.6: Append", s.Append(records...), nil)
			expectErr(t, "P9.6: Append", same.Append(records...), nil)
		}
		if sectors, _ := d.Waiting(); sectors != 4 {
			t.Errorf("P9.6: behind Append %d sectors wait, want 4", sectors)
		}
	}
}

// TestSyncWithNothingToMakeSafe is an operation all the same: counted, and failing if it is told to.
func TestSyncWithNothingToMakeSafe(t *testing.T) {
	d := disk.New()
	s := created(t, d, 7)
	for i := range 3 {
		expectErr(t, "P9.7: Sync with nothing to make safe", s.Sync(), nil)
		if d.Ops() != 3+i {
			t.Errorf("P9.7: behind %d of them there were %d operations", i+1, d.Ops())
		}
	}
	expectState(t, "nothing to make safe", s, 7, 0, true)
	d.Arm([]api.Fail{{At: 1}}, 0)
	expectErr(t, "P9.7: Sync with nothing to make safe", s.Sync(), api.ErrIo)
	expectSick(t, "P9.7: Sync with nothing to make safe", s, d)
}

// TestSyncOfOneThatIsNotWhole: it is done, and makes safe what stands behind the good blocks, too.
func TestSyncOfOneThatIsNotWhole(t *testing.T) {
	for i, file := range notWhole(t) {
		at := fmt.Sprintf("P9.7: Sync of file %d, which isn't whole", i)
		begin := func() *disk.Disk {
			d := loaded(t, file)
			expectErr(t, at, d.Append(file.Name, junk(600)), nil)
			return d
		}
		d, want := begin(), begin()
		s, found, err := segment.Open(d, 7)
		expectErr(t, "P9.3: Open", err, nil)
		blocks := s.Blocks()
		expectErr(t, at, s.Sync(), nil)
		expectErr(t, at, want.Sync(file.Name), nil)
		expectDisk(t, at, d, want)
		expectState(t, at, s, 7+uint64(len(found)), blocks, false)
		expectErr(t, "P9.6: Append behind "+at, s.Append([]byte("a")), api.ErrSick)
		expectErr(t, "P9.5: Cut behind "+at, s.Cut(), nil)
		expectErr(t, "P9.7: Sync behind Cut", s.Sync(), nil)
		expectState(t, at, s, 7+uint64(len(found)), blocks, true)
	}
}

// TestSyncIsOfItsFileAlone: neither another file nor a name is made safe.
func TestSyncIsOfItsFileAlone(t *testing.T) {
	d := busy(t)
	expectErr(t, "Append", d.Append(plainName(3), packed(t, 4, texts("y"))), nil)
	expectErr(t, "Append", d.Append("a", junk(3)), nil)
	sectors, names := d.Waiting()
	s := opened(t, "busy", d, 3, texts("x", "y"))
	expectErr(t, "P9.7: Sync", s.Sync(), nil)
	if left, leftNames := d.Waiting(); left != sectors-1 || leftNames != names {
		t.Errorf("P9.7: behind Sync %d sectors and %d names wait, of %d and %d", left, leftNames, sectors, names)
	}
}

// TestSyncDisturbed: of a Sync that fails, or in which the power goes, nothing is done.
func TestSyncDisturbed(t *testing.T) {
	for _, want := range []error{api.ErrIo, api.ErrDown} {
		at := fmt.Sprintf("P9.7: a Sync that answers %v", want)
		d := disk.New()
		s := created(t, d, 7)
		expectErr(t, at, s.Append([]byte("a")), nil)
		expectErr(t, at, s.Sync(), nil)
		expectErr(t, at, s.Append([]byte("b")), nil)
		if want == api.ErrIo {
			d.Arm([]api.Fail{{At: 1, Part: 512}}, 0)
		} else {
			d.Arm(nil, 1)
		}
		expectErr(t, at, s.Sync(), want)
		expectSick(t, at, s, d)
		expectState(t, at, s, 9, 2, true)
		opened(t, at+", and the last block lost", loaded(t, d.Safe().Files...), 7, texts("a"))
		opened(t, at+", and the last block kept", loaded(t, d.Crash(fates(0, 1)).Files...), 7, texts("a", "b"))
		expectState(t, at, opened(t, at+", and the last block spoilt", loaded(t, d.Crash(fates(0, 2)).Files...), 7, texts("a")), 8, 1, false)
	}
}
