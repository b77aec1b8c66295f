package segment_test

import (
	"bytes"
	"fmt"
	"math"
	"testing"

	"turnstile/api"
	"turnstile/disk"
	"turnstile/segment"
)

// outside are the numbers that no first record may have.
var outside = []uint64{0, maxLsn + 1, maxLsn + 2, 1<<63 - 1, 1 << 63, math.MaxUint64 - 1, math.MaxUint64}

// busy is a disk with files of all kinds, changes of names that wait among them.
func busy(t *testing.T) *disk.Disk {
	t.Helper()
	d := loaded(t, api.File{Name: "a", Data: junk(700), Bad: []int{1}}, api.File{Name: plainName(3), Data: packed(t, 3, texts("x"))}, api.File{Name: plainName(5), Data: junk(512)})
	expectErr(t, "Create", d.Create("b"), nil)
	expectErr(t, "Append", d.Append("b", junk(600)), nil)
	expectErr(t, "Remove", d.Remove(plainName(5)), nil)
	return d
}

func TestCreate(t *testing.T) {
	for _, first := range []uint64{1, 2, 5, 7, 1 << 40, maxLsn - 1, maxLsn} {
		for _, begin := range []func() *disk.Disk{disk.New, func() *disk.Disk { return busy(t) }} {
			at := fmt.Sprintf("P9.2: Create(%d)", first)
			d, want := begin(), begin()
			ahead := d.Ops()
			s := created(t, d, first)
			expectState(t, at, s, first, 0, true)
			expectErr(t, at, want.Create(plainName(first)), nil)
			expectErr(t, at, want.SyncNames(), nil)
			expectDisk(t, at, d, want)
			if d.Ops() != ahead+2 {
				t.Errorf("%s takes %d operations", at, d.Ops()-ahead)
			}
			left := loaded(t, d.Safe().Files...)
			expectState(t, at+", behind a loss of power", opened(t, at, left, first, nil), first, 0, true)
		}
	}
}

func TestCreateIsOpenForRecords(t *testing.T) {
	d := disk.New()
	s := created(t, d, maxLsn)
	expectErr(t, "P9.6: Append", s.Append([]byte("last")), nil)
	expectErr(t, "P9.7: Sync", s.Sync(), nil)
	expectState(t, "a segment from MaxLsn on", s, maxLsn+1, 1, true)
	opened(t, "a segment from MaxLsn on", d, maxLsn, texts("last"))
}

// TestCreateRefused: nothing is done, and no operation is counted, but that the disk refuses a name that is there.
func TestCreateRefused(t *testing.T) {
	for _, first := range outside {
		d := busy(t)
		s, err := segment.Create(d, first)
		if s != nil || err != api.ErrArg {
			t.Errorf("P9.2: Create(%d) is %v, %v, want ErrArg", first, s, err)
		}
		expectDisk(t, fmt.Sprintf("P9.2: Create(%d)", first), d, busy(t))
		if s, err := segment.Create(nil, first); s != nil || err != api.ErrNil {
			t.Errorf("P9.2: Create(nil, %d) is %v, %v, want ErrNil", first, s, err)
		}
	}
	if s, err := segment.Create(nil, 1); s != nil || err != api.ErrNil {
		t.Errorf("P9.2: Create(nil, 1) is %v, %v, want ErrNil", s, err)
	}
	d, want := busy(t), busy(t)
	if s, err := segment.Create(d, 3); s != nil || err != api.ErrThere {
		t.Errorf("P9.2: Create of a segment that is there is %v, %v, want ErrThere", s, err)
	}
	expectErr(t, "Create", want.Create(plainName(3)), api.ErrThere)
	expectDisk(t, "P9.2: Create of a segment that is there", d, want)
}

// TestCreateDisturbed: each of its two operations fails, or has the power lost in it.
func TestCreateDisturbed(t *testing.T) {
	for _, row := range []struct {
		fails []api.Fail
		cut   int
		want  error
		ops   int
		kept  bool // the name is there if all that waits is kept
		safe  bool // the name is safe
	}{
		{[]api.Fail{{At: 1}}, 0, api.ErrIo, 1, false, false},
		{[]api.Fail{{At: 1, Part: 512}}, 0, api.ErrIo, 1, false, false},
		{[]api.Fail{{At: 2}}, 0, api.ErrIo, 2, true, false},
		{[]api.Fail{{At: 1}, {At: 2}}, 0, api.ErrIo, 1, false, false},
		{[]api.Fail{{At: 3}}, 3, nil, 2, true, true},
		{nil, 1, api.ErrDown, 1, true, false},
		{nil, 2, api.ErrDown, 2, true, false},
		{[]api.Fail{{At: 1}}, 2, api.ErrIo, 1, false, false},
	} {
		at := fmt.Sprintf("P9.2: Create with %v failing and the power lost in %d", row.fails, row.cut)
		d := disk.New()
		d.Arm(row.fails, row.cut)
		s, err := segment.Create(d, 7)
		if err != row.want || (s == nil) != (err != nil) || d.Ops() != row.ops {
			t.Errorf("%s is %v, %v behind %d operations, want %v behind %d", at, s, err, d.Ops(), row.want, row.ops)
		}
		if kept := len(d.Crash(fates(9)).Files) == 1; kept != row.kept {
			t.Errorf("%s: the file is there: %v, want %v", at, kept, row.kept)
		}
		if safe := len(d.Safe().Files) == 1; safe != row.safe {
			t.Errorf("%s: its name is safe: %v, want %v", at, safe, row.safe)
		}
	}
}

func TestCreateWithThePowerOff(t *testing.T) {
	d := disk.New()
	d.Arm(nil, 1)
	expectErr(t, "SyncNames", d.SyncNames(), api.ErrDown)
	for _, row := range []struct {
		first uint64
		want  error
	}{{1, api.ErrDown}, {maxLsn, api.ErrDown}, {0, api.ErrArg}, {maxLsn + 1, api.ErrArg}} {
		if s, err := segment.Create(d, row.first); s != nil || err != row.want {
			t.Errorf("P9.2: Create(%d) with the power off is %v, %v, want %v", row.first, s, err, row.want)
		}
		s, records, err := segment.Open(d, row.first)
		if s != nil || records != nil || err != row.want {
			t.Errorf("P9.3: Open(%d) with the power off is %v, %v, %v, want %v", row.first, s, records, err, row.want)
		}
	}
	if d.Ops() != 1 {
		t.Errorf("P9.2: with the power off %d operations are counted", d.Ops()-1)
	}
}

// TestSegmentsBesideOneAnother: of one disk, and of two, none knows of the others.
func TestSegmentsBesideOneAnother(t *testing.T) {
	d := disk.New()
	one, two := created(t, d, 1), created(t, d, 2)
	far := created(t, disk.New(), 1)
	for i := range 5 {
		expectErr(t, "P9.6: Append", one.Append([]byte{byte(i), 1}), nil)
		expectErr(t, "P9.6: Append", two.Append([]byte{byte(i), 2}, []byte("more")), nil)
	}
	expectErr(t, "P9.6: Append", far.Append([]byte("far")), nil)
	d.Arm([]api.Fail{{At: 1}}, 0)
	expectErr(t, "P9.7: Sync", two.Sync(), api.ErrIo)
	expectErr(t, "P9.7: Sync", one.Sync(), nil)
	expectErr(t, "P9.7: Sync", far.Sync(), nil)
	expectState(t, "the first", one, 6, 5, true)
	expectState(t, "the second", two, 12, 5, true)
	expectState(t, "one of another disk", far, 2, 1, true)
	data, _, _ := d.Read(plainName(1))
	if !bytes.Equal(data, packed(t, 1, [][]byte{{0, 1}}, [][]byte{{1, 1}}, [][]byte{{2, 1}}, [][]byte{{3, 1}}, [][]byte{{4, 1}})) {
		t.Errorf("P9.6: the first one's file is %x", data)
	}
}
