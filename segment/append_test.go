package segment_test

import (
	"bytes"
	"fmt"
	"math/rand"
	"testing"

	"turnstile/api"
	"turnstile/disk"
	"turnstile/segment"
)

func TestExampleOfAppends(t *testing.T) {
	d := disk.New()
	s := created(t, d, 7)
	expectState(t, "at first", s, 7, 0, true)
	expectErr(t, "P9.6: Append of two", s.Append([]byte("ab"), []byte("c")), nil)
	expectState(t, "behind two", s, 9, 1, true)
	expectErr(t, "P9.6: Append of one", s.Append([]byte("d")), nil)
	expectState(t, "behind three", s, 10, 2, true)
	expectErr(t, "P9.7: Sync", s.Sync(), nil)
	expectState(t, "behind Sync", opened(t, "behind Sync", d, 7, texts("ab", "c", "d")), 10, 2, true)
}

func TestExampleOfALoss(t *testing.T) {
	d := disk.New()
	s := created(t, d, 7)
	expectErr(t, "P9.6: Append of two", s.Append([]byte("ab"), []byte("c")), nil)
	expectErr(t, "P9.6: Append of one", s.Append([]byte("d")), nil)
	left := loaded(t, d.Crash(fates(0, api.Lost, api.Kept)).Files...)
	s = opened(t, "behind the loss", left, 7, nil)
	expectState(t, "behind the loss", s, 7, 0, false)
	expectErr(t, "P9.6: Append to one that isn't whole", s.Append([]byte("e")), api.ErrSick)
	expectErr(t, "P9.5: Cut", s.Cut(), nil)
	expectState(t, "behind Cut", s, 7, 0, true)
	expectErr(t, "P9.6: Append behind Cut", s.Append([]byte("e")), nil)
	expectState(t, "behind Cut and Append", s, 8, 1, true)
	opened(t, "behind Cut and Append", left, 7, texts("e"))
}

// TestAppendBlocks: how many blocks the records take is written out; of each row it is one operation, and the bytes are Pack's.
func TestAppendBlocks(t *testing.T) {
	for _, row := range []struct {
		records [][]byte
		blocks  int
	}{
		{texts(""), 1},
		{texts("a"), 1},
		{texts("a", "b"), 1},
		{sized(200), 1},
		{sized(200, 200, 88), 1},
		{sized(200, 200, 89), 2},
		{sized(200, 200, 200), 2},
		{sized(200, 200, 200, 200, 200), 3},
		{sized(make([]int, 247)...), 1},
		{sized(make([]int, 248)...), 2},
		{sized(make([]int, 2471)...), 11},
		{texts("", "", "x"), 1},
	} {
		for _, first := range []uint64{1, 7, maxLsn - 8000} {
			at := fmt.Sprintf("Append(%s) to a segment from %d on", tellRecords(row.records), first)
			d, want := disk.New(), disk.New()
			s := created(t, d, first)
			created(t, want, first)
			count := uint64(len(row.records))
			for round := range 3 {
				expectErr(t, "P9.6: "+at, s.Append(row.records...), nil)
				due := first + uint64(round)*count
				expectErr(t, at, want.Append(plainName(first), packed(t, due, row.records)), nil)
				expectState(t, at, s, due+count, (round+1)*row.blocks, true)
				expectDisk(t, "P9.6: "+at, d, want)
			}
			if d.Ops() != 5 {
				t.Errorf("P9.6: three times %s takes %d operations", at, d.Ops()-2)
			}
			expectState(t, at, opened(t, at, d, first, append(append(append([][]byte{}, row.records...), row.records...), row.records...)), first+3*count, 3*row.blocks, true)
		}
	}
}

// TestAppendOfOneIsABlock: a block is never filled up by a later Append.
func TestAppendOfOneIsABlock(t *testing.T) {
	d := disk.New()
	s := created(t, d, 1)
	var records [][]byte
	for i := range 300 {
		expectErr(t, "P9.6: Append", s.Append([]byte{byte(i)}), nil)
		records = append(records, []byte{byte(i)})
		expectState(t, "one by one", s, uint64(i+2), i+1, true)
	}
	expectState(t, "one by one", opened(t, "one by one", d, 1, records), 301, 300, true)
}

// TestAppendBeyondAFullSegment: how many blocks a segment may get isn't asked here.
func TestAppendBeyondAFullSegment(t *testing.T) {
	d := disk.New()
	s := created(t, d, 1)
	expectErr(t, "P9.6: Append", s.Append(sized(make([]int, 247*(api.MaxBlocks+1))...)...), nil)
	expectState(t, "more than MaxBlocks", s, 247*(api.MaxBlocks+1)+1, api.MaxBlocks+1, true)
	expectErr(t, "P9.6: Append", s.Append([]byte("a")), nil)
	expectState(t, "more than MaxBlocks", s, 247*(api.MaxBlocks+1)+2, api.MaxBlocks+2, true)
}

func TestAppendOfNoRecord(t *testing.T) {
	for _, first := range []uint64{1, maxLsn} {
		d, want := disk.New(), disk.New()
		s := created(t, d, first)
		created(t, want, first)
		expectErr(t, "P9.6: Append()", s.Append(), nil)
		expectErr(t, "P9.6: Append(nil...)", s.Append(nil...), nil)
		expectErr(t, "P9.6: Append of an empty list", s.Append([][]byte{}...), nil)
		expectState(t, "behind no record", s, first, 0, true)
		expectDisk(t, "P9.6: Append of no record", d, want)
		// A record without a byte is one.
		expectErr(t, "P9.6: Append(nil)", s.Append(nil), nil)
		expectState(t, "behind a record of no byte", s, first+1, 1, true)
		opened(t, "behind a record of no byte", d, first, texts(""))
		// Where no number is left, no record goes all the same, and meets nothing of a disk without power.
		d.Arm(nil, 1)
		expectErr(t, "SyncNames", d.SyncNames(), api.ErrDown)
		expectErr(t, "P9.6: Append() with the power off", s.Append(), nil)
	}
}

// TestAppendRefused: layer 8's errors change nothing, and don't make the segment sick.
func TestAppendRefused(t *testing.T) {
	for _, row := range []struct {
		first   uint64
		records [][]byte
		want    error
	}{
		{1, sized(201), api.ErrLong},
		{1, sized(65536), api.ErrLong},
		{1, sized(200, 200, 200, 200, 201), api.ErrLong},
		{1, sized(201, 1), api.ErrLong},
		{1, sized(1, 201, 1), api.ErrLong},
		{maxLsn - 1, sized(1, 1), api.ErrArg},
		{maxLsn - 1, sized(1, 201), api.ErrArg},
		{maxLsn - 1, sized(201), api.ErrLong},
		{maxLsn - 1, sized(1, 1, 1, 1), api.ErrArg},
		{maxLsn - 300, sized(make([]int, 301)...), api.ErrArg},
	} {
		at := fmt.Sprintf("Append(%s) with Next %d", tellRecords(row.records), row.first+1)
		d, want := disk.New(), disk.New()
		s := created(t, d, row.first)
		same := created(t, want, row.first)
		expectErr(t, at, s.Append([]byte("a")), nil)
		expectErr(t, at, same.Append([]byte("a")), nil)
		for range 3 {
			expectErr(t, "P9.6: "+at, s.Append(row.records...), row.want)
			expectState(t, at, s, row.first+1, 1, true)
			expectDisk(t, "P9.6: "+at, d, want)
		}
		expectErr(t, "P9.6: Append behind "+at, s.Append([]byte("b")), nil)
		expectErr(t, "P9.7: Sync behind "+at, s.Sync(), nil)
		expectErr(t, "P9.5: Cut behind "+at, s.Cut(), nil)
		expectState(t, at, opened(t, at, d, row.first, texts("a", "b")), row.first+2, 2, true)
	}
}

func TestAppendUpToTheLastNumber(t *testing.T) {
	d := disk.New()
	s := created(t, d, maxLsn-3)
	expectErr(t, "P9.6: Append", s.Append(texts("a", "b")...), nil)
	expectErr(t, "P9.6: Append of one too many", s.Append(texts("c", "d", "e")...), api.ErrArg)
	expectErr(t, "P9.6: Append up to MaxLsn", s.Append(texts("c", "d")...), nil)
	expectState(t, "up to MaxLsn", s, maxLsn+1, 2, true)
	for _, records := range [][][]byte{texts("e"), texts(""), texts("e", "f"), sized(201)} {
		expectErr(t, "P9.6: Append beyond MaxLsn", s.Append(records...), api.ErrArg)
		expectState(t, "up to MaxLsn", s, maxLsn+1, 2, true)
	}
	expectErr(t, "P9.6: Append of no record beyond MaxLsn", s.Append(), nil)
	expectErr(t, "P9.7: Sync", s.Sync(), nil)
	again := opened(t, "up to MaxLsn", d, maxLsn-3, texts("a", "b", "c", "d"))
	expectState(t, "up to MaxLsn", again, maxLsn+1, 2, true)
	expectErr(t, "P9.6: Append beyond MaxLsn behind Open", again.Append([]byte("e")), api.ErrArg)
}

// TestAppendBehindOpen: records are put behind those that were found.
func TestAppendBehindOpen(t *testing.T) {
	d := loaded(t, api.File{Name: plainName(7), Data: blocksOf(t, 7)})
	s := opened(t, "three blocks", d, 7, ofBlocks)
	expectErr(t, "P9.6: Append", s.Append(sized(200, 200, 200)...), nil)
	expectState(t, "behind Open and Append", s, 16, 5, true)
	data, bad, err := d.Read(plainName(7))
	if want := append(blocksOf(t, 7), packed(t, 13, sized(200, 200, 200))...); !bytes.Equal(data, want) || len(bad) > 0 || err != nil {
		t.Errorf("P9.6: behind Open and Append the file is %x, want %x", data, want)
	}
	if d.Ops() != 1 {
		t.Errorf("P9.6: Append takes %d operations", d.Ops())
	}
}

// TestAppendToOneThatIsNotWhole: refused, of no record and of records that block refuses too, and nothing is done.
func TestAppendToOneThatIsNotWhole(t *testing.T) {
	for _, file := range notWhole(t) {
		d := loaded(t, file)
		s, found, err := segment.Open(d, 7)
		expectErr(t, "P9.3: Open", err, nil)
		blocks := s.Blocks()
		for _, records := range [][][]byte{nil, {}, texts("a"), texts("a", "b"), sized(201), texts("")} {
			expectErr(t, "P9.6: Append to one that isn't whole", s.Append(records...), api.ErrSick)
			expectState(t, "one that isn't whole", s, 7+uint64(len(found)), blocks, false)
		}
		expectDisk(t, "P9.6: Append to one that isn't whole", d, loaded(t, file))
	}
}

func TestAppendDrawn(t *testing.T) {
	r := rand.New(rand.NewSource(93))
	for range 150 {
		first := 1 + uint64(r.Intn(9))
		if r.Intn(3) == 0 {
			first = maxLsn - uint64(r.Intn(60))
		}
		x := openPair(t, api.Image{Files: []api.File{{Name: plainName(first)}}}, first)
		for range 8 {
			x.call(t, add(anyRecords(r)))
		}
	}
}

// anyRecords are a few, mostly; now and then many, or one that is too long.
func anyRecords(r *rand.Rand) [][]byte {
	count, most := r.Intn(5), 1+r.Intn(201)
	switch r.Intn(12) {
	case 0:
		count, most = r.Intn(600), 1
	case 1:
		count, most = 1+r.Intn(3), 202
	}
	lengths := make([]int, count)
	for i := range lengths {
		lengths[i] = r.Intn(most)
	}
	if most == 202 {
		lengths[r.Intn(count)] = 201
	}
	return sized(lengths...)
}
