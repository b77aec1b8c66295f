package snap_test

import (
	"bytes"
	"fmt"
	"slices"
	"strings"
	"testing"

	"turnstile/api"
	"turnstile/disk"
	"turnstile/image"
	"turnstile/snap"
	"turnstile/state"
)

func plainName(lsn uint64) string { return fmt.Sprintf("snap.%016x", lsn) }

// plainLsn goes by the form that the chapter tells: five bytes, 16 digits, and their number.
func plainLsn(name string) (uint64, bool) {
	if len(name) != 21 || name[:5] != "snap." {
		return 0, false
	}
	x := uint64(0)
	for _, digit := range []byte(name[5:]) {
		at := strings.IndexByte("0123456789abcdef", digit)
		if at < 0 {
			return 0, false
		}
		x = 16*x + uint64(at)
	}
	if x > last {
		return 0, false
	}
	return x, true
}

// writeOperations are those that the chapter lists, in its order.
func writeOperations(s api.State, b []byte, begunIsThere bool) []operation {
	list := []operation{create("temp"), put("temp", b), syncOf("temp"), rename("temp", plainName(s.Lsn)), syncNames()}
	if begunIsThere {
		return append([]operation{remove("temp")}, list...)
	}
	return list
}

func plainWrite(d *disk.Disk, s api.State) error {
	if d == nil {
		return api.ErrNil
	}
	if !state.Valid(s) {
		return api.ErrArg
	}
	names, err := d.Names()
	if err != nil {
		return err
	}
	b, _ := image.Encode(s)
	return play(d, writeOperations(s, b, slices.Contains(names, "temp"))...)
}

// plainGood is the state of a snapshot, and whether it is good.
func plainGood(f api.File) (api.State, bool) {
	lsn, ok := plainLsn(f.Name)
	s, err := image.Decode(f.Data)
	return s, ok && len(f.Bad) == 0 && err == nil && s.Lsn == lsn
}

// plainNewest looks at every file, and keeps the greatest.
func plainNewest(d *disk.Disk) (api.State, error) {
	if d == nil {
		return api.State{}, api.ErrNil
	}
	if d.Down() {
		return api.State{}, api.ErrDown
	}
	newest := api.State{}
	for _, f := range d.Seen().Files {
		if s, good := plainGood(f); good && s.Lsn >= newest.Lsn {
			newest = s
		}
	}
	return newest, nil
}

func cleanOperations(names []string, keep uint64) []operation {
	var list []operation
	for _, name := range names {
		if lsn, ok := plainLsn(name); name == "temp" || ok && lsn < keep {
			list = append(list, remove(name))
		}
	}
	if len(list) > 0 {
		list = append(list, syncNames())
	}
	return list
}

func plainClean(d *disk.Disk, keep uint64) error {
	if d == nil {
		return api.ErrNil
	}
	names, err := d.Names()
	if err != nil {
		return err
	}
	return play(d, cleanOperations(names, keep)...)
}

// operation is one of the disk's.
type operation struct {
	what string
	on   func(*disk.Disk) error
}

func create(name string) operation {
	return operation{fmt.Sprintf("Create(%q)", name), func(d *disk.Disk) error { return d.Create(name) }}
}

func put(name string, data []byte) operation {
	return operation{fmt.Sprintf("Append(%q, %d bytes)", name, len(data)), func(d *disk.Disk) error { return d.Append(name, data) }}
}

func syncOf(name string) operation {
	return operation{fmt.Sprintf("Sync(%q)", name), func(d *disk.Disk) error { return d.Sync(name) }}
}

func truncate(name string, n int) operation {
	return operation{fmt.Sprintf("Truncate(%q, %d)", name, n), func(d *disk.Disk) error { return d.Truncate(name, n) }}
}

func rename(from, to string) operation {
	return operation{fmt.Sprintf("Rename(%q, %q)", from, to), func(d *disk.Disk) error { return d.Rename(from, to) }}
}

func remove(name string) operation {
	return operation{fmt.Sprintf("Remove(%q)", name), func(d *disk.Disk) error { return d.Remove(name) }}
}

func syncNames() operation { return operation{"SyncNames()", (*disk.Disk).SyncNames} }

// play does operations up to the first one that answers an error.
func play(d *disk.Disk, operations ...operation) error {
	for _, o := range operations {
		if err := o.on(d); err != nil {
			return err
		}
	}
	return nil
}

// call is one of the package's, or of the disk's, and what the plain reckoning has in its place.
type call struct {
	what  string
	on    func(*disk.Disk) (api.State, error)
	plain func(*disk.Disk) (api.State, error)
}

func write(s api.State) call {
	return call{"Write(" + tell(s) + ")",
		func(d *disk.Disk) (api.State, error) { return api.State{}, snap.Write(d, s) },
		func(d *disk.Disk) (api.State, error) { return api.State{}, plainWrite(d, s) }}
}

func newest() call { return call{"Newest", snap.Newest, plainNewest} }

func clean(keep uint64) call {
	return call{fmt.Sprintf("Clean(%d)", keep),
		func(d *disk.Disk) (api.State, error) { return api.State{}, snap.Clean(d, keep) },
		func(d *disk.Disk) (api.State, error) { return api.State{}, plainClean(d, keep) }}
}

// ofDisk is the disk's operation on both sides.
func ofDisk(o operation) call {
	on := func(d *disk.Disk) (api.State, error) { return api.State{}, o.on(d) }
	return call{o.what, on, on}
}

func arm(cut int, fails ...api.Fail) call {
	return ofDisk(operation{fmt.Sprintf("Arm(%v, %d)", fails, cut), func(d *disk.Disk) error {
		d.Arm(fails, cut)
		return nil
	}})
}

// pair is a disk with the package's calls, and another one with the plain reckoning's.
type pair struct {
	d     *disk.Disk
	other *disk.Disk
	calls []string
}

func pairOf(t *testing.T, files ...api.File) *pair {
	t.Helper()
	d := loaded(t, files...)
	return &pair{d: d, other: loaded(t, files...), calls: []string{"a disk with " + tellImage(d.Seen())}}
}

func (x *pair) String() string { return strings.Join(x.calls, ", ") }

// call makes the call on both, and holds all that can be asked of the disks against each other.
func (x *pair) call(t *testing.T, c call) (api.State, error) {
	t.Helper()
	x.calls = append(x.calls, c.what)
	s, err := c.on(x.d)
	want, wantErr := c.plain(x.other)
	if !same(s, want) || err != wantErr {
		t.Fatalf("P15.2, P15.3, P15.4: %s: the last call answers %s, %v, want %s, %v", x, tell(s), err, tell(want), wantErr)
	}
	expectDisk(t, x.String(), x.d, x.other)
	return s, err
}

// lose takes the power from both.
func (x *pair) lose(t *testing.T, f api.Fates) {
	t.Helper()
	x.calls = append(x.calls, fmt.Sprint("a loss with ", f))
	x.d, x.other = loaded(t, x.d.Crash(f).Files...), loaded(t, x.other.Crash(f).Files...)
}

// loaded is a disk with the files, in whatever order they are told.
func loaded(t *testing.T, files ...api.File) *disk.Disk {
	t.Helper()
	list := slices.SortedFunc(slices.Values(files), func(a, b api.File) int { return strings.Compare(a.Name, b.Name) })
	d, err := disk.Load(api.Image{Files: list})
	if err != nil {
		t.Fatalf("Load of %s: %v", tellImage(api.Image{Files: list}), err)
	}
	return d
}

func fates(names int, sectors ...int) api.Fates { return api.Fates{Sectors: sectors, Names: names} }

// someFates: every fate on each of the first sectors, alone and with others, each with several counts of names.
func someFates() []api.Fates {
	var list []api.Fates
	for _, names := range []int{0, 1, 2, 3, 4, 9} {
		for _, sectors := range [][]int{nil, {1}, {2}, {0, 1}, {0, 2}, {1, 1}, {0, 0, 1}, {1, 1, 1}, {2, 1, 0, 2, 1, 0}, slices.Repeat([]int{1}, 900), {2, 2, 2, 2, 2, 2, 2}} {
			list = append(list, fates(names, sectors...))
		}
	}
	return list
}

// everyFates gives all fates of what waits on the disk.
func everyFates(d *disk.Disk, do func(api.Fates)) {
	sectors, names := d.Waiting()
	row := make([]int, sectors)
	for number := 0; ; number++ {
		left := number
		for i := range row {
			row[i] = left % 3
			left /= 3
		}
		if left > 0 {
			return
		}
		for made := range names + 1 {
			do(fates(made, row...))
		}
	}
}

func sameImage(a, b api.Image) bool {
	return slices.EqualFunc(a.Files, b.Files, func(x, y api.File) bool {
		return x.Name == y.Name && bytes.Equal(x.Data, y.Data) && slices.Equal(x.Bad, y.Bad)
	})
}

// sameDisks asks whether two disks answer the same in all that can be asked of them, also of their losses of power.
func sameDisks(a, b *disk.Disk) bool {
	sectors, names := a.Waiting()
	otherSectors, otherNames := b.Waiting()
	if a.Ops() != b.Ops() || a.Down() != b.Down() || sectors != otherSectors || names != otherNames || !sameImage(a.Seen(), b.Seen()) || !sameImage(a.Safe(), b.Safe()) {
		return false
	}
	same := true
	expect := func(f api.Fates) { same = same && sameImage(a.Crash(f), b.Crash(f)) }
	switch {
	case sectors == 0: // the fates of sectors that wait under a name that is gone, too
		for made := range names + 1 {
			expect(fates(made))
			expect(fates(made, 1, 1, 1))
		}
	case sectors <= 2:
		everyFates(a, expect)
	default:
		for _, f := range someFates() {
			expect(f)
		}
	}
	return same
}

func expectDisk(t *testing.T, at string, have, want *disk.Disk) {
	t.Helper()
	if !sameDisks(have, want) {
		t.Fatalf("P15.2, P15.3, P15.4: %s: the disk has %s; want %s", at, tellDisk(have), tellDisk(want))
	}
}

func expectErr(t *testing.T, at string, have, want error) {
	t.Helper()
	if have != want {
		t.Fatalf("%s answers %v, want %v", at, have, want)
	}
}

// expectNewest expects Newest to answer this state, and to change nothing.
func expectNewest(t *testing.T, at string, d *disk.Disk, want api.State) {
	t.Helper()
	ahead, ops := d.Seen(), d.Ops()
	if s, err := snap.Newest(d); !same(s, want) || err != nil {
		t.Fatalf("P15.3: %s: Newest of %s is %s, %v, want %s", at, tellImage(ahead), tell(s), err, tell(want))
	}
	if d.Ops() != ops || !sameImage(d.Seen(), ahead) {
		t.Fatalf("P15.3: %s: Newest counts %d operations, and leaves %s", at, d.Ops()-ops, tellImage(d.Seen()))
	}
}

func expectNames(t *testing.T, at string, d *disk.Disk, want ...string) {
	t.Helper()
	if names, err := d.Names(); !slices.Equal(names, want) || err != nil {
		t.Fatalf("%s: the names are %q, %v, want %q", at, names, err, want)
	}
}

// tell is s in a message, many keys by their number.
func tell(s api.State) string {
	if len(s.Keys) > 3 {
		return fmt.Sprintf("{Lsn %d, Floor %d, %d keys}", s.Lsn, s.Floor, len(s.Keys))
	}
	return fmt.Sprintf("{Lsn %d, Floor %d, %+q}", s.Lsn, s.Floor, fmt.Sprint(s.Keys))
}

// tellImage writes an image in short: of each file its name, its length, its first bytes, the sectors that can't be read.
func tellImage(img api.Image) string {
	var words []string
	for _, f := range img.Files {
		words = append(words, fmt.Sprintf("%.30q %d bytes %x bad %v", f.Name, len(f.Data), f.Data[:min(len(f.Data), 20)], f.Bad))
	}
	return "[" + strings.Join(words, "; ") + "]"
}

func tellDisk(d *disk.Disk) string {
	return fmt.Sprintf("%d operations, seen: %s, safe: %s, all kept: %s", d.Ops(), tellImage(d.Seen()), tellImage(d.Safe()), tellImage(d.Crash(fates(99, slices.Repeat([]int{1}, 900)...))))
}
