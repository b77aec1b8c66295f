package segment_test

import (
	"fmt"
	"slices"
	"testing"

	"turnstile/api"
	"turnstile/disk"
	"turnstile/segment"
)

// expectSick: every call that writes is refused, for ever, and none is an operation; the answers stay.
func expectSick(t *testing.T, at string, s *segment.Segment, d *disk.Disk) {
	t.Helper()
	next, blocks, whole, ops, seen := s.Next(), s.Blocks(), s.Whole(), d.Ops(), d.Seen()
	for range 3 {
		d.Arm(nil, 0)
		for _, c := range []call{add(nil), add(texts("a")), add(texts("a", "b")), add(sized(201)), syncAll(), cut()} {
			expectErr(t, at+", then "+c.String(), c.on(s), api.ErrSick)
			expectState(t, at+", then "+c.String(), s, next, blocks, whole)
		}
	}
	if d.Ops() != ops || !sameImage(d.Seen(), seen) {
		t.Fatalf("%s: a sick segment goes on at the disk", at)
	}
}

// parts are how much of an Append of four blocks stands there if it fails.
var parts = []int{-1 << 63, -1, 0, 1, 100, 511, 512, 513, 1023, 1024, 1500, 1536, 1537, 2047, 2048, 2049, 1<<63 - 1}

// TestAppendThatFails: whatever of it stands there, what it would have added isn't counted, Whole stays; a new Open finds its whole blocks.
func TestAppendThatFails(t *testing.T) {
	row := sized(200, 200, 200, 200, 200, 200, 200)
	for _, begin := range []func(*segment.Segment) [][]byte{
		func(*segment.Segment) [][]byte { return nil },
		func(s *segment.Segment) [][]byte { s.Append(texts("ab", "c")...); s.Sync(); return texts("ab", "c") },
		func(s *segment.Segment) [][]byte { s.Append(texts("ab", "c")...); return texts("ab", "c") },
	} {
		for _, part := range parts {
			at := fmt.Sprintf("P9.6: an Append that fails behind %d bytes", part)
			d := disk.New()
			s := created(t, d, 7)
			records := begin(s)
			next, blocks := s.Next(), s.Blocks()
			d.Arm([]api.Fail{{At: 1, Part: part}}, 0)
			expectErr(t, at, s.Append(row...), api.ErrIo)
			expectState(t, at, s, next, blocks, true)
			expectSick(t, at, s, d)

			stands := max(0, min(part, 2048))
			found := slices.Concat(records, row[:min(len(row), stands/512*2)])
			again := opened(t, at, d, 7, found)
			expectState(t, at+", then Open", again, 7+uint64(len(found)), blocks+stands/512, stands%512 == 0)
			expectErr(t, at+", then Open and Cut", again.Cut(), nil)
			expectErr(t, at+", then Open, Cut and Append", again.Append([]byte("new")), nil)
			expectErr(t, at+", then Open, Cut, Append and Sync", again.Sync(), nil)
			found = append(found, []byte("new"))
			expectState(t, at, opened(t, at, loaded(t, d.Safe().Files...), 7, found), 7+uint64(len(found)), blocks+stands/512+1, true)
			expectSick(t, at+", while another one goes on", s, d)
		}
	}
}

// TestAppendInWhichThePowerGoes: it stands there, waiting, and isn't counted.
func TestAppendInWhichThePowerGoes(t *testing.T) {
	row := sized(200, 200, 200)
	d := disk.New()
	s := created(t, d, 7)
	expectErr(t, "P9.6: Append", s.Append([]byte("a")), nil)
	d.Arm(nil, 1)
	expectErr(t, "P9.6: Append in which the power goes", s.Append(row...), api.ErrDown)
	expectState(t, "the power went", s, 8, 1, true)
	expectSick(t, "P9.6: Append in which the power goes", s, d)
	for _, found := range []struct {
		fates   []int
		records [][]byte
		blocks  int
		whole   bool
	}{
		{nil, nil, 0, true},
		{[]int{1}, texts("a"), 1, true},
		{[]int{1, 1}, append(texts("a"), row[:2]...), 2, true},
		{[]int{1, 1, 1}, append(texts("a"), row...), 3, true},
		{[]int{1, 0, 1}, texts("a"), 1, false},
		{[]int{1, 2}, texts("a"), 1, false},
		{[]int{1, 1, 2}, append(texts("a"), row[:2]...), 2, false},
		{[]int{0, 1, 1}, nil, 0, false},
		{[]int{2}, nil, 0, false},
	} {
		at := fmt.Sprintf("behind fates %v", found.fates)
		left := loaded(t, d.Crash(fates(0, found.fates...)).Files...)
		expectState(t, at, opened(t, at, left, 7, found.records), 7+uint64(len(found.records)), found.blocks, found.whole)
	}
}

// TestCallsWithThePowerOff: the first operation of each makes it sick; what is none goes on until then.
func TestCallsWithThePowerOff(t *testing.T) {
	for _, row := range []struct {
		call call
		want error
	}{
		{add(nil), nil},
		{add(sized(201)), api.ErrLong},
		{cut(), nil},
		{add(texts("a")), api.ErrDown},
		{syncAll(), api.ErrDown},
	} {
		at := "P9.6: " + row.call.String() + " with the power off"
		d := disk.New()
		s := created(t, d, 7)
		d.Arm(nil, 1)
		expectErr(t, at, d.SyncNames(), api.ErrDown)
		expectErr(t, at, row.call.on(s), row.want)
		expectState(t, at, s, 7, 0, true)
		if row.want == api.ErrDown {
			expectSick(t, at, s, d)
			continue
		}
		expectErr(t, at+", then Sync", s.Sync(), api.ErrDown)
		expectSick(t, at+", then Sync", s, d)
	}
}

// TestAFileThatIsTakenAway: other errors of the disk make it sick, too, also if the file comes back.
func TestAFileThatIsTakenAway(t *testing.T) {
	for _, c := range []call{add(texts("a")), syncAll()} {
		at := "P9.6: " + c.String() + " to a file that was removed"
		d := disk.New()
		s := created(t, d, 7)
		expectErr(t, at, d.Remove(plainName(7)), nil)
		expectErr(t, at, c.on(s), api.ErrGone)
		expectErr(t, at, d.Create(plainName(7)), nil)
		expectSick(t, at, s, d)
	}
	d := loaded(t, api.File{Name: plainName(7), Data: append(blocksOf(t, 7), junk(5)...)})
	s := opened(t, "a file with junk", d, 7, ofBlocks)
	expectErr(t, "Truncate", d.Truncate(plainName(7), 512), nil)
	expectErr(t, "P9.5: Cut to more than is there", s.Cut(), api.ErrArg)
	expectSick(t, "P9.5: Cut to more than is there", s, d)
	expectState(t, "a file that was cut", s, 13, 3, false)
}

// TestOthersErrorsDoNotMakeItSick: only those that its own calls met.
func TestOthersErrorsDoNotMakeItSick(t *testing.T) {
	d := disk.New()
	s := created(t, d, 7)
	if again, err := segment.Create(d, 7); again != nil || err != api.ErrThere {
		t.Errorf("P9.2: Create of a segment that is there is %v, %v", again, err)
	}
	d.Arm([]api.Fail{{At: 1}, {At: 2}}, 0)
	expectErr(t, "Append", d.Append(plainName(7), nil), api.ErrIo)
	expectErr(t, "Sync", d.Sync(plainName(7)), api.ErrIo)
	expectErr(t, "P9.6: Append", s.Append([]byte("a")), nil)
	expectErr(t, "P9.7: Sync", s.Sync(), nil)
	expectState(t, "behind others' errors", s, 8, 1, true)
}

func TestNilSegment(t *testing.T) {
	var s *segment.Segment
	for _, c := range []call{add(nil), add(texts("a")), add(sized(201)), syncAll(), cut()} {
		expectErr(t, "P9.6: "+c.String()+" of a nil Segment", c.on(s), api.ErrNil)
	}
	expectState(t, "a nil Segment", s, 0, 0, false)
}
