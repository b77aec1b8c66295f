package wal_test

import (
	"bytes"
	"fmt"
	"slices"
	"strconv"
	"strings"
	"testing"

	"turnstile/api"
	"turnstile/block"
	"turnstile/disk"
	"turnstile/wal"
)

const maxLsn = 1 << 62

func plainName(first uint64) string { return fmt.Sprintf("log.%016x", first) }

func texts(list ...string) [][]byte {
	out := [][]byte{}
	for _, text := range list {
		out = append(out, []byte(text))
	}
	return out
}

func junk(size int) []byte { return bytes.Repeat([]byte{0xc3}, size) }

func sameRecords(a, b [][]byte) bool { return slices.EqualFunc(a, b, bytes.Equal) }

// tellRecords writes records in short: how many they are, and the first ones.
func tellRecords(records [][]byte) string {
	words := []string{fmt.Sprint(len(records), " records")}
	for _, record := range records[:min(len(records), 8)] {
		words = append(words, fmt.Sprintf("%d:%.8q", len(record), record))
	}
	return strings.Join(words, " ")
}

// packed is the blocks of records, each row of them in blocks of its own.
func packed(t *testing.T, first uint64, rows ...[][]byte) []byte {
	t.Helper()
	var out []byte
	for _, records := range rows {
		b, err := block.Pack(first, records)
		if err != nil {
			t.Fatalf("Pack(%d, %s): %v", first, tellRecords(records), err)
		}
		out = append(out, b...)
		first += uint64(len(records))
	}
	return out
}

// numbered is the record of this number in the segment from first on: no two are alike.
func numbered(first, number uint64) []byte { return fmt.Appendf(nil, "%d of %d", number, first) }

// recordsOf are the records of a segment from one number up to another one.
func recordsOf(first, from, to uint64) [][]byte {
	out := [][]byte{}
	for number := from; number <= to; number++ {
		out = append(out, numbered(first, number))
	}
	return out
}

// fileOf is a segment whose blocks have so many records each.
func fileOf(t *testing.T, first uint64, counts ...int) api.File {
	t.Helper()
	f := api.File{Name: plainName(first)}
	next := first
	for _, count := range counts {
		f.Data = append(f.Data, packed(t, next, recordsOf(first, next, next+uint64(count)-1))...)
		next += uint64(count)
	}
	return f
}

// with is the file with more bytes behind it, and sectors that can't be read.
func with(f api.File, more []byte, bad ...int) api.File {
	return api.File{Name: f.Name, Data: slices.Concat(f.Data, more), Bad: bad}
}

func imageOf(files ...api.File) api.Image {
	list := slices.Clone(files)
	slices.SortFunc(list, func(a, b api.File) int { return strings.Compare(a.Name, b.Name) })
	return api.Image{Files: list}
}

func loaded(t *testing.T, img api.Image) *disk.Disk {
	t.Helper()
	d, err := disk.Load(img)
	if err != nil {
		t.Fatalf("Load of %s: %v", tellImage(img), err)
	}
	return d
}

func fates(names int, sectors ...int) api.Fates { return api.Fates{Sectors: sectors, Names: names} }

// someFates: every fate on each of the first sectors, alone and with others, each with several counts of names.
func someFates() []api.Fates {
	var list []api.Fates
	for _, names := range []int{0, 1, 2, 3, 9} {
		for _, sectors := range [][]int{nil, {1}, {2}, {0, 1}, {0, 2}, {1, 1}, {0, 0, 1}, {1, 1, 1}, {0, 0, 0, 1}, {2, 1, 0, 2, 1, 0}, {1, 1, 1, 1, 1, 1, 1, 1, 1}, {2, 2, 2, 2, 2, 2, 2, 2, 2}} {
			list = append(list, fates(names, sectors...))
		}
	}
	return list
}

// everyFates gives all fates of what waits on the disk.
func everyFates(d *disk.Disk, do func(api.Fates)) {
	sectors, names := d.Waiting()
	row := make([]int, sectors)
	for number := 0; ; number++ {
		left := number
		for i := range row {
			row[i] = left % 3
			left /= 3
		}
		if left > 0 {
			return
		}
		for made := range names + 1 {
			do(fates(made, row...))
		}
	}
}

func sameImage(a, b api.Image) bool {
	return slices.EqualFunc(a.Files, b.Files, func(x, y api.File) bool {
		return x.Name == y.Name && bytes.Equal(x.Data, y.Data) && slices.Equal(x.Bad, y.Bad)
	})
}

// tellImage writes an image in short: of each file its name, its length, the numbers in its sectors' heads, those that can't be read.
func tellImage(img api.Image) string {
	var words []string
	for _, f := range img.Files {
		word := fmt.Sprintf("%s %d bytes bad %v", f.Name, len(f.Data), f.Bad)
		for at := 0; at < min(len(f.Data), 6*api.Sector); at += api.Sector {
			word += fmt.Sprintf(" %x", f.Data[at:min(at+14, len(f.Data))])
		}
		words = append(words, word)
	}
	return strings.Join(words, "; ")
}

// sameDisks asks whether two disks answer the same in all that can be asked of them, also of their losses of power.
func sameDisks(a, b *disk.Disk) bool {
	sectors, names := a.Waiting()
	otherSectors, otherNames := b.Waiting()
	if a.Ops() != b.Ops() || a.Down() != b.Down() || sectors != otherSectors || names != otherNames || !sameImage(a.Seen(), b.Seen()) || !sameImage(a.Safe(), b.Safe()) {
		return false
	}
	same := true
	expect := func(f api.Fates) { same = same && sameImage(a.Crash(f), b.Crash(f)) }
	if names == 0 && sectors <= 2 {
		everyFates(a, expect)
		return same
	}
	for _, f := range someFates() {
		expect(f)
	}
	return same
}

func tellDisk(d *disk.Disk) string {
	return fmt.Sprintf("%d operations, all kept: %s, safe: %s", d.Ops(), tellImage(d.Crash(fates(99, 1, 1, 1, 1, 1, 1, 1, 1, 1))), tellImage(d.Safe()))
}

func expectDisk(t *testing.T, at string, have, want *disk.Disk) {
	t.Helper()
	if !sameDisks(have, want) {
		t.Fatalf("P10.1: %s: the disk has %s; want %s", at, tellDisk(have), tellDisk(want))
	}
}

func expectErr(t *testing.T, at string, have, want error) {
	t.Helper()
	if have != want {
		t.Fatalf("%s answers %v, want %v", at, have, want)
	}
}

// expectLog holds the four answers of a log.
func expectLog(t *testing.T, at string, w *wal.Wal, next, safe uint64, sick bool, segments ...uint64) {
	t.Helper()
	if w.Next() != next || w.Safe() != safe || w.Sick() != sick || !slices.Equal(w.Segments(), segments) {
		t.Fatalf("P10.1: %s: Next is %d, Safe %d, Sick %v, Segments %v, want %d, %d, %v, %v", at, w.Next(), w.Safe(), w.Sick(), w.Segments(), next, safe, sick, segments)
	}
}

// opened expects Open to answer these records.
func opened(t *testing.T, at string, d *disk.Disk, after uint64, blocks int, want [][]byte) *wal.Wal {
	t.Helper()
	w, records, err := wal.Open(d, after, blocks)
	if err != nil || w == nil || !sameRecords(records, want) {
		t.Fatalf("P10.1: %s: Open(%d, %d) answers %s, %v, want %s", at, after, blocks, tellRecords(records), err, tellRecords(want))
	}
	return w
}

// refused expects Open to answer this error, and nothing else.
func refused(t *testing.T, at string, d *disk.Disk, after uint64, blocks int, want error) {
	t.Helper()
	w, records, err := wal.Open(d, after, blocks)
	if w != nil || len(records) > 0 || err != want {
		t.Fatalf("P10.1: %s: Open(%d, %d) answers %v, %s, %v, want %v alone", at, after, blocks, w, tellRecords(records), err, want)
	}
}

// begun is a log over an empty disk with these records, not synced.
func begun(t *testing.T, blocks int, records ...string) (*wal.Wal, *disk.Disk) {
	t.Helper()
	d := disk.New()
	w := opened(t, "an empty disk", d, 0, blocks, nil)
	for i, record := range records {
		appended(t, w, record, uint64(i+1))
	}
	return w, d
}

func appended(t *testing.T, w *wal.Wal, record string, want uint64) {
	t.Helper()
	if number, err := w.Append([]byte(record)); number != want || err != nil {
		t.Fatalf("P10.1: Append(%.8q) answers %d, %v, want %d", record, number, err, want)
	}
}

// call is one of a log's calls that write.
type call struct {
	op     string
	record []byte
	upto   uint64
}

func add(record []byte) call { return call{op: "Append", record: record} }
func syncAll() call          { return call{op: "Sync"} }
func drop(upto uint64) call  { return call{op: "Drop", upto: upto} }

func (c call) String() string {
	switch c.op {
	case "Append":
		return fmt.Sprintf("Append(%d:%.8q)", len(c.record), c.record)
	case "Drop":
		return fmt.Sprintf("Drop(%d)", c.upto)
	}
	return "Sync()"
}

func tellCalls(calls []call) string {
	var words []string
	for _, c := range calls {
		words = append(words, c.String())
	}
	return strings.Join(words, ", ")
}

func (c call) on(w *wal.Wal) (uint64, error) {
	switch c.op {
	case "Append":
		return w.Append(c.record)
	case "Drop":
		return 0, w.Drop(c.upto)
	}
	return 0, w.Sync()
}

// plainSegment is what the plain log keeps of a segment.
type plainSegment struct {
	first  uint64
	next   uint64
	blocks int
	whole  bool
}

// plain is a log reckoned by the words of the chapter and of chapter 9, over a disk of its own.
type plain struct {
	d        *disk.Disk
	most     int
	segments []plainSegment
	safe     uint64
	sick     bool
}

// plainNumber is the number in a segment's name, or 0.
func plainNumber(name string) uint64 {
	if len(name) != 20 {
		return 0
	}
	number, err := strconv.ParseUint(name[4:], 16, 64)
	if err != nil || number > maxLsn || plainName(number) != name {
		return 0
	}
	return number
}

// plainRead goes through a segment's file sector by sector; the records are those whose number is above after.
func plainRead(d *disk.Disk, first, after uint64) (plainSegment, [][]byte) {
	data, bad, _ := d.Read(plainName(first))
	s := plainSegment{first: first, next: first}
	var records [][]byte
	for len(data) >= 512 && !slices.Contains(bad, s.blocks) {
		due, inIt, err := block.Decode(data[:512])
		if err != nil || due != s.next {
			break
		}
		for _, record := range inIt {
			if s.next > after {
				records = append(records, record)
			}
			s.next++
		}
		s.blocks++
		data = data[512:]
	}
	s.whole = len(data) == 0
	return s, records
}

// play does operations up to the first one that answers an error.
func play(d *disk.Disk, operations ...operation) error {
	for _, o := range operations {
		if err := o.on(d); err != nil {
			return err
		}
	}
	return nil
}

// operation is one of a disk's, on a segment's file.
type operation struct {
	kind  string
	first uint64
	size  int
	data  []byte
}

func (o operation) on(d *disk.Disk) error {
	switch o.kind {
	case "Create":
		return d.Create(plainName(o.first))
	case "Append":
		return d.Append(plainName(o.first), o.data)
	case "Sync":
		return d.Sync(plainName(o.first))
	case "Truncate":
		return d.Truncate(plainName(o.first), o.size)
	case "Remove":
		return d.Remove(plainName(o.first))
	}
	return d.SyncNames()
}

func create(first uint64) operation { return operation{kind: "Create", first: first} }
func put(first uint64, data []byte) operation {
	return operation{kind: "Append", first: first, data: data}
}
func syncOf(first uint64) operation             { return operation{kind: "Sync", first: first} }
func truncate(first uint64, size int) operation { return operation{"Truncate", first, size, nil} }
func remove(first uint64) operation             { return operation{kind: "Remove", first: first} }
func syncNames() operation                      { return operation{kind: "SyncNames"} }

// plainOpen goes by the chapter's steps.
func plainOpen(d *disk.Disk, after uint64, most int) (*plain, [][]byte, error) {
	if after > maxLsn || most < 1 || most > 1024 {
		return nil, nil, api.ErrArg
	}
	names, err := d.Names()
	if err != nil {
		return nil, nil, err
	}
	var all []plainSegment
	var found [][][]byte
	for _, name := range names {
		if number := plainNumber(name); number > 0 {
			s, records := plainRead(d, number, after)
			all = append(all, s)
			found = append(found, records)
		}
	}
	if len(all) > 0 && all[0].first > after+1 {
		return nil, nil, api.ErrGap
	}
	good := 0
	for good < len(all) && (good == 0 || all[good-1].whole && all[good-1].next == all[good].first) {
		good++
	}
	if good > 0 && all[good-1].next <= after {
		good = 0
	}
	var steps []operation
	for i := len(all) - 1; i >= good; i-- {
		steps = append(steps, remove(all[i].first))
	}
	if len(steps) > 0 {
		steps = append(steps, syncNames())
	}
	if err := play(d, steps...); err != nil {
		return nil, nil, err
	}
	p := &plain{d: d, most: most, segments: all[:good]}
	if err := p.finish(after); err != nil {
		return nil, nil, err
	}
	return p, slices.Concat(found[:good]...), nil
}

// finish goes by steps 5 and 6.
func (p *plain) finish(after uint64) error {
	var steps []operation
	if len(p.segments) == 0 {
		if after == maxLsn {
			return api.ErrArg
		}
		p.segments = []plainSegment{{first: after + 1, next: after + 1, whole: true}}
		steps = append(steps, create(after+1), syncNames())
	}
	if last := p.last(); !last.whole {
		steps = append(steps, truncate(last.first, 512*last.blocks))
		last.whole = true
	}
	for _, s := range p.segments {
		steps = append(steps, syncOf(s.first))
	}
	p.safe = p.last().next - 1
	return play(p.d, append(steps, syncNames())...)
}

func (p *plain) last() *plainSegment { return &p.segments[len(p.segments)-1] }

func (p *plain) numbers() []uint64 {
	var out []uint64
	for _, s := range p.segments {
		out = append(out, s.first)
	}
	return out
}

// fault hands on an error, which makes the log sick.
func (p *plain) fault(err error) error {
	p.sick = p.sick || err != nil
	return err
}

// call does what a log's call has to do.
func (p *plain) call(c call) (uint64, error) {
	switch {
	case p.sick:
		return 0, api.ErrSick
	case c.op == "Append":
		return p.add(c.record)
	case c.op == "Drop":
		return 0, p.drop(c.upto)
	}
	err := p.fault(syncOf(p.last().first).on(p.d))
	if err == nil {
		p.safe = p.last().next - 1
	}
	return 0, err
}

func (p *plain) add(record []byte) (uint64, error) {
	number := p.last().next
	if len(record) > 200 || number > maxLsn {
		return 0, api.ErrLong
	}
	if p.last().blocks >= p.most {
		if err := p.fault(syncOf(p.last().first).on(p.d)); err != nil {
			return 0, err
		}
		p.safe = number - 1
		if err := p.fault(play(p.d, create(number), syncNames())); err != nil {
			return 0, err
		}
		p.segments = append(p.segments, plainSegment{first: number, next: number, whole: true})
	}
	data, err := block.Encode(number, [][]byte{record})
	if err != nil {
		return 0, err
	}
	if err := p.fault(put(p.last().first, data).on(p.d)); err != nil {
		return 0, err
	}
	p.last().next++
	p.last().blocks++
	return number, nil
}

// drop goes by the segments' last records.
func (p *plain) drop(upto uint64) error {
	removed := 0
	for len(p.segments) > 1 && p.segments[0].next-1 <= upto {
		if err := p.fault(remove(p.segments[0].first).on(p.d)); err != nil {
			return err
		}
		p.segments = p.segments[1:]
		removed++
	}
	if removed == 0 {
		return nil
	}
	return p.fault(syncNames().on(p.d))
}

// pair is a log and the plain one beside it, each over a disk of its own.
type pair struct {
	w     *wal.Wal
	p     *plain
	d     *disk.Disk
	other *disk.Disk // the plain one's
	calls []string
}

func (x *pair) String() string { return strings.Join(x.calls, ", ") }

// pairOf has not been opened yet.
func pairOf(t *testing.T, img api.Image) *pair {
	t.Helper()
	return &pair{d: loaded(t, img), other: loaded(t, img), calls: []string{"a disk with " + tellImage(img)}}
}

// open opens both, and holds all that can be asked against each other; of an Open that is refused both logs are nil.
func (x *pair) open(t *testing.T, after uint64, blocks int) ([][]byte, error) {
	t.Helper()
	x.calls = append(x.calls, fmt.Sprintf("Open(%d, %d)", after, blocks))
	p, want, wantErr := plainOpen(x.other, after, blocks)
	w, records, err := wal.Open(x.d, after, blocks)
	if err != wantErr || (w == nil) != (p == nil) || !sameRecords(records, want) {
		t.Fatalf("P10.1: %s answers %s, %v, want %s, %v", x, tellRecords(records), err, tellRecords(want), wantErr)
	}
	x.w, x.p = w, p
	x.expectSame(t)
	return records, err
}

// call makes the call on both.
func (x *pair) call(t *testing.T, c call) error {
	t.Helper()
	x.calls = append(x.calls, c.String())
	number, err := c.on(x.w)
	wantNumber, wantErr := x.p.call(c)
	if number != wantNumber || err != wantErr {
		t.Fatalf("P10.1: %s: the last call answers %d, %v, want %d, %v", x, number, err, wantNumber, wantErr)
	}
	x.expectSame(t)
	return err
}

func (x *pair) expectSame(t *testing.T) {
	t.Helper()
	if x.p != nil {
		expectLog(t, x.String(), x.w, x.p.last().next, x.p.safe, x.p.sick, x.p.numbers()...)
	}
	expectDisk(t, x.String(), x.d, x.other)
}

// arm arms both disks.
func (x *pair) arm(fails []api.Fail, cut int) {
	x.calls = append(x.calls, fmt.Sprintf("Arm(%v, %d)", fails, cut))
	x.d.Arm(fails, cut)
	x.other.Arm(fails, cut)
}

// lose takes the power from both.
func (x *pair) lose(t *testing.T, f api.Fates) {
	t.Helper()
	x.calls = append(x.calls, fmt.Sprint("a loss with ", f))
	x.d, x.other = loaded(t, x.d.Crash(f)), loaded(t, x.other.Crash(f))
}
