package snap_test

import (
	"testing"

	"turnstile/api"
	"turnstile/disk"
	"turnstile/snap"
)

// TestExample1 is the chapter's first one.
func TestExample1(t *testing.T) {
	if name := snap.Name(0); name != "snap.0000000000000000" {
		t.Errorf("P15.1: Name(0) is %q", name)
	}
	if lsn, ok := snap.Lsn("snap.00000000000000ff"); lsn != 255 || !ok {
		t.Errorf("P15.1: Lsn is %d, %v", lsn, ok)
	}
	for _, name := range []string{"snap.00000000000000FF", "temp", "log.00000000000000ff"} {
		if lsn, ok := snap.Lsn(name); lsn != 0 || ok {
			t.Errorf("P15.1: Lsn(%q) is %d, %v", name, lsn, ok)
		}
	}
}

// TestExample2: three calls that write, and what the disk then holds.
func TestExample2(t *testing.T) {
	d := disk.New()
	expectNewest(t, "a new disk", d, api.State{})
	expectErr(t, "P15.2: Write", snap.Write(d, at(5)), nil)
	if d.Ops() != 5 {
		t.Errorf("P15.2: Write counts %d operations, want 5", d.Ops())
	}
	expectNewest(t, "Write of 5", d, at(5))
	expectErr(t, "P15.2: Write", snap.Write(d, at(3)), nil)
	expectNewest(t, "Write of 5 and 3", d, at(5))
	expectNames(t, "P15.2", d, "snap.0000000000000003", "snap.0000000000000005")
	expectErr(t, "P15.4: Clean", snap.Clean(d, 5), nil)
	if d.Ops() != 12 {
		t.Errorf("P15.4: Write twice and Clean count %d operations, want 12", d.Ops())
	}
	expectNames(t, "P15.4", d, "snap.0000000000000005")
	expectErr(t, "P15.4: Clean again", snap.Clean(d, 5), nil)
	if d.Ops() != 12 {
		t.Errorf("P15.4: Clean again counts %d operations, want none", d.Ops()-12)
	}
}

// TestExample3: the power goes in SyncNames.
func TestExample3(t *testing.T) {
	for names, want := range []api.State{{}, {}, at(5)} {
		d := disk.New()
		d.Arm(nil, 5)
		expectErr(t, "P15.5: Write", snap.Write(d, at(5)), api.ErrDown)
		left := loaded(t, d.Crash(fates(names)).Files...)
		expectNewest(t, "behind the loss", left, want)
		switch names {
		case 0:
			expectNames(t, "P15.5", left)
		case 1:
			expectNames(t, "P15.5", left, "temp")
		case 2:
			expectNames(t, "P15.5", left, "snap.0000000000000005")
		}
	}
}

// TestExample4: files that aren't good.
func TestExample4(t *testing.T) {
	expectNewest(t, "another number", loaded(t, named(fileOf(t, at(5)), "snap.0000000000000009")), api.State{})
	s := endsInZero(t, 5, 513)
	expectNewest(t, "all can be read", loaded(t, fileOf(t, s)), s)
	f := fileOf(t, s)
	f.Bad = []int{1}
	expectNewest(t, "a sector that can't be read, though the bytes decode", loaded(t, f), api.State{})
}

// TestExample5: two equal keys.
func TestExample5(t *testing.T) {
	d := disk.New()
	expectErr(t, "P15.2: Write of two equal keys", snap.Write(d, stateOf(5, 0, flow("k", 3, 0, 0), flow("k", 3, 0, 0))), api.ErrArg)
	expectDisk(t, "Write of two equal keys", d, disk.New())
}
