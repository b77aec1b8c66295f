package segment_test

import (
	"bytes"
	"fmt"
	"slices"
	"strings"
	"testing"

	"turnstile/api"
	"turnstile/block"
	"turnstile/disk"
	"turnstile/segment"
)

const maxLsn = 1 << 62

// sized is records of these lengths, none of whose bytes is 0, so that what is lost shows; no two of a list are like each other if they have a byte.
func sized(lengths ...int) [][]byte {
	out := [][]byte{}
	for i, length := range lengths {
		record := bytes.Repeat([]byte{byte(1 + i%250)}, length)
		if length > 1 {
			record[1] = byte(1 + i/250)
		}
		out = append(out, record)
	}
	return out
}

func texts(list ...string) [][]byte {
	out := [][]byte{}
	for _, text := range list {
		out = append(out, []byte(text))
	}
	return out
}

func junk(size int) []byte { return bytes.Repeat([]byte{0xc3}, size) }

func sameRecords(a, b [][]byte) bool { return slices.EqualFunc(a, b, bytes.Equal) }

// tellRecords writes records in short: how many they are, and the first ones.
func tellRecords(records [][]byte) string {
	words := []string{fmt.Sprint(len(records), " records")}
	for _, record := range records[:min(len(records), 6)] {
		words = append(words, fmt.Sprintf("%d:%.6q", len(record), record))
	}
	return strings.Join(words, " ")
}

// packed is the blocks of records, each row of them in blocks of its own.
func packed(t *testing.T, first uint64, rows ...[][]byte) []byte {
	t.Helper()
	var out []byte
	for _, records := range rows {
		b, err := block.Pack(first, records)
		if err != nil {
			t.Fatalf("Pack(%d, %s): %v", first, tellRecords(records), err)
		}
		out = append(out, b...)
		first += uint64(len(records))
	}
	return out
}

func loaded(t *testing.T, files ...api.File) *disk.Disk {
	t.Helper()
	d, err := disk.Load(api.Image{Files: files})
	if err != nil {
		t.Fatalf("Load: %v", err)
	}
	return d
}

func fates(names int, sectors ...int) api.Fates { return api.Fates{Sectors: sectors, Names: names} }

// someFates: every fate on each of the first sectors, alone and with others, and lists that are too short and too long.
func someFates() []api.Fates {
	list := []api.Fates{fates(0), fates(1), fates(9)}
	for _, names := range []int{0, 1, 9} {
		list = append(list, fates(names, 1, 1, 1, 1, 1, 1, 1, 1), fates(names, 2, 2, 2, 2, 2, 2, 2, 2), fates(names, 1), fates(names, 1, 1),
			fates(names, 2), fates(names, 0, 1), fates(names, 0, 2), fates(names, 1, 0, 1), fates(names, 1, 2, 1), fates(names, 1, 1, 2, 7),
			fates(names, 0, 1, 1, 1, 1), fates(names, 0, 0, 0, 1), fates(names, 2, 1, 0, 2, 1, 0))
	}
	return list
}

func sameImage(a, b api.Image) bool {
	return slices.EqualFunc(a.Files, b.Files, func(x, y api.File) bool {
		return x.Name == y.Name && bytes.Equal(x.Data, y.Data) && slices.Equal(x.Bad, y.Bad)
	})
}

// tellImage writes an image in short: of each file its name, its length, the first bytes of its sectors, those that can't be read.
func tellImage(img api.Image) string {
	var words []string
	for _, f := range img.Files {
		word := fmt.Sprintf("%s %d bytes bad %v", f.Name, len(f.Data), f.Bad)
		for at := 0; at < min(len(f.Data), 6*api.Sector); at += api.Sector {
			word += fmt.Sprintf(" %x", f.Data[at:min(at+20, len(f.Data))])
		}
		words = append(words, word)
	}
	return strings.Join(words, "; ")
}

// sameDisks asks whether two disks answer the same in all that can be asked of them, also of their losses of power.
func sameDisks(a, b *disk.Disk) bool {
	sectors, names := a.Waiting()
	otherSectors, otherNames := b.Waiting()
	if a.Ops() != b.Ops() || a.Down() != b.Down() || sectors != otherSectors || names != otherNames || !sameImage(a.Seen(), b.Seen()) {
		return false
	}
	for _, f := range someFates() {
		if !sameImage(a.Crash(f), b.Crash(f)) {
			return false
		}
	}
	return true
}

func expectDisk(t *testing.T, at string, have, want *disk.Disk) {
	t.Helper()
	if !sameDisks(have, want) {
		all := fates(9, 1, 1, 1, 1, 1, 1)
		t.Fatalf("%s: the disk has %d operations, %s (all kept), safe is %s; want %d, %s, %s", at, have.Ops(), tellImage(have.Crash(all)), tellImage(have.Safe()),
			want.Ops(), tellImage(want.Crash(all)), tellImage(want.Safe()))
	}
}

// expectState holds the three answers of a segment.
func expectState(t *testing.T, at string, s *segment.Segment, next uint64, blocks int, whole bool) {
	t.Helper()
	if s.Next() != next || s.Blocks() != blocks || s.Whole() != whole {
		t.Fatalf("P9.4: %s: Next is %d, Blocks %d, Whole %v, want %d, %d, %v", at, s.Next(), s.Blocks(), s.Whole(), next, blocks, whole)
	}
}

func expectErr(t *testing.T, at string, have, want error) {
	t.Helper()
	if have != want {
		t.Fatalf("%s answers %v, want %v", at, have, want)
	}
}

func created(t *testing.T, d *disk.Disk, first uint64) *segment.Segment {
	t.Helper()
	s, err := segment.Create(d, first)
	if err != nil || s == nil {
		t.Fatalf("P9.2: Create(%d): %v", first, err)
	}
	return s
}

// opened expects Open to answer these records.
func opened(t *testing.T, at string, d *disk.Disk, first uint64, want [][]byte) *segment.Segment {
	t.Helper()
	s, records, err := segment.Open(d, first)
	if err != nil || s == nil || !sameRecords(records, want) {
		t.Fatalf("P9.3: %s: Open(%d) answers %s, %v, want %s", at, first, tellRecords(records), err, tellRecords(want))
	}
	return s
}

// call is one of a segment's calls that write.
type call struct {
	op      string
	records [][]byte
}

func add(records [][]byte) call { return call{op: "Append", records: records} }
func cut() call                 { return call{op: "Cut"} }
func syncAll() call             { return call{op: "Sync"} }

func (c call) String() string {
	if c.op == "Append" {
		return "Append(" + tellRecords(c.records) + ")"
	}
	return c.op + "()"
}

func (c call) on(s *segment.Segment) error {
	switch c.op {
	case "Append":
		return s.Append(c.records...)
	case "Cut":
		return s.Cut()
	}
	return s.Sync()
}

// plain is a segment reckoned by the chapter's words, over a disk of its own; of its good blocks it keeps the counts of their records alone.
type plain struct {
	d      *disk.Disk
	first  uint64
	file   string
	counts []int // of the records in each good block
	whole  bool
	sick   bool
}

func plainName(first uint64) string { return fmt.Sprintf("log.%016x", first) }

func plainCreate(d *disk.Disk, first uint64) (*plain, error) {
	if first < 1 || first > maxLsn {
		return nil, api.ErrArg
	}
	if err := d.Create(plainName(first)); err != nil {
		return nil, err
	}
	if err := d.SyncNames(); err != nil {
		return nil, err
	}
	return &plain{d: d, first: first, file: plainName(first), whole: true}, nil
}

// plainOpen goes through the file sector by sector.
func plainOpen(d *disk.Disk, first uint64) (*plain, [][]byte, error) {
	if first < 1 || first > maxLsn {
		return nil, nil, api.ErrArg
	}
	data, bad, err := d.Read(plainName(first))
	if err != nil {
		return nil, nil, err
	}
	p := &plain{d: d, first: first, file: plainName(first)}
	var records [][]byte
	for i := 0; len(data) >= 512 && !slices.Contains(bad, i); i++ {
		due, inIt, err := block.Decode(data[:512])
		if err != nil || due != p.next() {
			break
		}
		records = append(records, inIt...)
		p.counts = append(p.counts, len(inIt))
		data = data[512:]
	}
	p.whole = len(data) == 0
	return p, records, nil
}

func (p *plain) next() uint64 {
	next := p.first
	for _, count := range p.counts {
		next += uint64(count)
	}
	return next
}

// call does what a segment's call has to do.
func (p *plain) call(c call) error {
	switch {
	case p.sick:
		return api.ErrSick
	case c.op == "Append" && !p.whole:
		return api.ErrSick
	case c.op == "Append" && len(c.records) == 0, c.op == "Cut" && p.whole:
		return nil
	}
	err := error(nil)
	var blocks []byte
	switch c.op {
	case "Append":
		if blocks, err = block.Pack(p.next(), c.records); err != nil {
			return err
		}
		err = p.d.Append(p.file, blocks)
	case "Cut":
		err = p.d.Truncate(p.file, 512*len(p.counts))
	case "Sync":
		err = p.d.Sync(p.file)
	}
	if err != nil {
		p.sick = true
		return err
	}
	p.whole = p.whole || c.op == "Cut"
	for ; len(blocks) > 0; blocks = blocks[512:] {
		p.counts = append(p.counts, int(blocks[12])+256*int(blocks[13]))
	}
	return nil
}

// pair is a segment and the plain one beside it, each over a disk of its own.
type pair struct {
	s     *segment.Segment
	p     *plain
	d     *disk.Disk
	calls []string
}

// openPair opens both over disks of the image.
func openPair(t *testing.T, img api.Image, first uint64) *pair {
	t.Helper()
	x := &pair{d: loaded(t, img.Files...), calls: []string{"Open of " + tellImage(img)}}
	x.reopen(t, loaded(t, img.Files...), first)
	return x
}

// reopen opens the segment of x's disk anew, and the plain one of the other disk.
func (x *pair) reopen(t *testing.T, other *disk.Disk, first uint64) [][]byte {
	t.Helper()
	p, want, wantErr := plainOpen(other, first)
	s, records, err := segment.Open(x.d, first)
	if err != wantErr || (s == nil) != (p == nil) || !sameRecords(records, want) {
		t.Fatalf("P9.3: %s answers %s, %v, want %s, %v", x, tellRecords(records), err, tellRecords(want), wantErr)
	}
	x.s, x.p = s, p
	x.expectSame(t)
	return records
}

func (x *pair) String() string { return strings.Join(x.calls, ", ") }

// call makes the call on both, and holds all that can be asked against each other.
func (x *pair) call(t *testing.T, c call) error {
	t.Helper()
	x.calls = append(x.calls, c.String())
	have, want := c.on(x.s), x.p.call(c)
	if have != want {
		t.Fatalf("P9.5, P9.6, P9.7: %s: the last call answers %v, want %v", x, have, want)
	}
	x.expectSame(t)
	return have
}

func (x *pair) expectSame(t *testing.T) {
	t.Helper()
	if x.p == nil {
		return
	}
	expectState(t, x.String(), x.s, x.p.next(), len(x.p.counts), x.p.whole)
	expectDisk(t, x.String(), x.d, x.p.d)
}

// arm arms both disks.
func (x *pair) arm(fails []api.Fail, cut int) {
	x.calls = append(x.calls, fmt.Sprintf("Arm(%v, %d)", fails, cut))
	x.d.Arm(fails, cut)
	x.p.d.Arm(fails, cut)
}
