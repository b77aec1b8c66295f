package segment_test

import (
	"bytes"
	"fmt"
	"math/rand"
	"slices"
	"testing"

	"turnstile/api"
	"turnstile/disk"
	"turnstile/segment"
)

// blocksOf are three blocks from first on: of two records, of one, of three.
func blocksOf(t *testing.T, first uint64) []byte {
	t.Helper()
	return packed(t, first, texts("a", "bc"), texts("d"), texts("", "e", "fgh"))
}

var ofBlocks = [][]byte{[]byte("a"), []byte("bc"), []byte("d"), {}, []byte("e"), []byte("fgh")}

func turned(b []byte, at int) []byte {
	out := bytes.Clone(b)
	out[at] ^= 1
	return out
}

func TestOpen(t *testing.T) {
	all := blocksOf(t, 7)
	for _, row := range []struct {
		what    string
		data    []byte
		bad     []int
		records int
		blocks  int
		whole   bool
	}{
		{"an empty file", nil, nil, 0, 0, true},
		{"a block", all[:512], nil, 2, 1, true},
		{"three blocks", all, nil, 6, 3, true},
		{"one byte", all[:1], nil, 0, 0, false},
		{"a block but its last byte", all[:511], nil, 0, 0, false},
		{"a block and a byte", all[:513], nil, 2, 1, false},
		{"two blocks and most of another", all[:1535], nil, 3, 2, false},
		{"three blocks and a byte that is 0", append(bytes.Clone(all), 0), nil, 6, 3, false},
		{"three blocks and a sector of zeros", append(bytes.Clone(all), make([]byte, 512)...), nil, 6, 3, false},
		{"three blocks and a sector of junk", append(bytes.Clone(all), junk(512)...), nil, 6, 3, false},
		{"three blocks and many sectors of junk", append(bytes.Clone(all), junk(5001)...), nil, 6, 3, false},
		{"junk alone", junk(1024), nil, 0, 0, false},
		{"zeros ahead", append(make([]byte, 512), all...), nil, 0, 0, false},
		{"a byte ahead", append(make([]byte, 1), all...), nil, 0, 0, false},
		{"the first sector can't be read", all, []int{0}, 0, 0, false},
		{"the second sector can't be read", all, []int{1}, 2, 1, false},
		{"the last sector can't be read", all, []int{2}, 3, 2, false},
		{"two sectors can't be read", all, []int{1, 2}, 2, 1, false},
		{"no sector can be read", all, []int{0, 1, 2}, 0, 0, false},
		{"the first and the last sector can't be read", all, []int{0, 2}, 0, 0, false},
		{"a part of a sector can't be read", all[:1000], []int{1}, 2, 1, false},
		{"what stands behind can't be read", append(bytes.Clone(all), junk(512)...), []int{3}, 6, 3, false},
		{"the first block has a byte turned", turned(all, 20), nil, 0, 0, false},
		{"the second block has a byte turned", turned(all, 1023), nil, 2, 1, false},
		{"the last block has a byte turned", turned(all, 1535), nil, 3, 2, false},
		{"blocks that begin with a lower number", blocksOf(t, 6), nil, 0, 0, false},
		{"blocks that begin with a higher number", blocksOf(t, 8), nil, 0, 0, false},
		{"a block that is there twice", slices.Concat(all[:512], all), nil, 2, 1, false},
		{"a block left out", slices.Concat(all[:512], all[1024:]), nil, 2, 1, false},
		{"blocks of a later number", slices.Concat(all, packed(t, 14, texts("z"))), nil, 6, 3, false},
		{"blocks behind junk", slices.Concat(all[:512], junk(512), all[512:]), nil, 2, 1, false},
	} {
		file := api.File{Name: plainName(7), Data: row.data, Bad: row.bad}
		d := loaded(t, file)
		s := opened(t, row.what, d, 7, ofBlocks[:row.records])
		expectState(t, row.what, s, 7+uint64(row.records), row.blocks, row.whole)
		expectDisk(t, "P9.3: Open of "+row.what, d, loaded(t, file))
	}
}

func TestOpenAtTheLastNumbers(t *testing.T) {
	for _, row := range []struct {
		first   uint64
		records [][]byte
	}{
		{maxLsn, texts("a")},
		{maxLsn - 1, texts("a", "b")},
		{maxLsn - 2, texts("a", "b")},
		{maxLsn - 599, sized(make([]int, 600)...)},
		{1, texts("a")},
	} {
		d := loaded(t, api.File{Name: plainName(row.first), Data: packed(t, row.first, row.records)})
		s := opened(t, "the last numbers", d, row.first, row.records)
		expectState(t, "the last numbers", s, row.first+uint64(len(row.records)), len(d.Seen().Files[0].Data)/512, true)
	}
}

// TestOpenAnswersTheNextTime: a second and a third one answer as the first, also while another one is open.
func TestOpenAnswersTheNextTime(t *testing.T) {
	d := loaded(t, api.File{Name: plainName(7), Data: append(blocksOf(t, 7), junk(700)...), Bad: []int{4}})
	for range 3 {
		expectState(t, "again", opened(t, "again", d, 7, ofBlocks), 13, 3, false)
	}
}

// TestOpenIsNoOperation: it is neither counted, nor does it meet what is armed.
func TestOpenIsNoOperation(t *testing.T) {
	d := busy(t)
	d.Arm([]api.Fail{{At: 1}}, 2)
	for range 3 {
		opened(t, "with failures armed", d, 3, texts("x"))
	}
	if _, _, err := segment.Open(d, 4); err != api.ErrGone {
		t.Errorf("P9.3: Open of a file that isn't there: %v", err)
	}
	want := busy(t)
	expectDisk(t, "P9.3: Open", d, want)
	expectErr(t, "the first operation behind Open", d.SyncNames(), api.ErrIo)
	expectErr(t, "the second operation behind Open", d.SyncNames(), api.ErrDown)
}

func TestOpenRefused(t *testing.T) {
	for _, row := range []struct {
		first uint64
		want  error
	}{
		{1, api.ErrGone}, {2, api.ErrGone}, {4, api.ErrGone}, {5, api.ErrGone}, {maxLsn, api.ErrGone},
		{0, api.ErrArg}, {maxLsn + 1, api.ErrArg}, {1 << 63, api.ErrArg}, {1<<64 - 1, api.ErrArg},
	} {
		d := busy(t)
		s, records, err := segment.Open(d, row.first)
		if s != nil || len(records) > 0 || err != row.want {
			t.Errorf("P9.3: Open(%d) is %v, %v, %v, want %v", row.first, s, records, err, row.want)
		}
		expectDisk(t, "P9.3: a refused Open", d, busy(t))
		if s, records, err := segment.Open(nil, row.first); s != nil || len(records) > 0 || err != api.ErrNil {
			t.Errorf("P9.3: Open(nil, %d) is %v, %v, %v, want ErrNil", row.first, s, records, err)
		}
	}
	if s, records, err := segment.Open(nil, 3); s != nil || len(records) > 0 || err != api.ErrNil {
		t.Errorf("P9.3: Open(nil, 3) is %v, %v, %v, want ErrNil", s, records, err)
	}
	// A file of a name that no number from 1 to MaxLsn has isn't asked for.
	d := loaded(t, api.File{Name: plainName(0)}, api.File{Name: plainName(maxLsn + 1)})
	for _, first := range []uint64{0, maxLsn + 1} {
		if _, _, err := segment.Open(d, first); err != api.ErrArg {
			t.Errorf("P9.3: Open(%d), whose file is there: %v", first, err)
		}
	}
}

// TestOpenSeesWhatWaits: Open goes by the bytes as seen.
func TestOpenSeesWhatWaits(t *testing.T) {
	d := disk.New()
	expectErr(t, "Create", d.Create(plainName(7)), nil)
	expectErr(t, "Append", d.Append(plainName(7), blocksOf(t, 7)), nil)
	expectState(t, "what waits", opened(t, "what waits", d, 7, ofBlocks), 13, 3, true)
	if sectors, names := d.Waiting(); sectors != 3 || names != 1 {
		t.Errorf("P9.3: behind Open %d sectors and %d names wait, want 3 and 1", sectors, names)
	}
}

// anySectors is a file of sectors of all kinds, most of them good, and which can't be read.
func anySectors(t *testing.T, r *rand.Rand, first uint64) api.File {
	t.Helper()
	f := api.File{Name: plainName(first)}
	for i := range r.Intn(7) {
		row := sized([]int{r.Intn(200), r.Intn(200), r.Intn(80)}[:1+r.Intn(3)]...)
		b := packed(t, first, row)
		first += uint64(len(row))
		switch r.Intn(24) {
		case 0:
			b = junk(512)
		case 1:
			b = make([]byte, 512)
		case 2:
			b[r.Intn(512)] ^= byte(1 + r.Intn(255))
		case 3:
			first += uint64(r.Intn(3)) - 1
		case 4:
			f.Bad = append(f.Bad, i)
		}
		f.Data = append(f.Data, b...)
	}
	if r.Intn(5) == 0 {
		f.Data = append(f.Data, junk(1+r.Intn(511))...)
	}
	return f
}

func TestOpenDrawn(t *testing.T) {
	r := rand.New(rand.NewSource(92))
	met := map[string]int{}
	for range 3000 {
		first := 1 + uint64(r.Intn(50))
		x := openPair(t, api.Image{Files: []api.File{anySectors(t, r, first)}}, first)
		met[fmt.Sprint(min(x.s.Blocks(), 3), x.s.Whole())]++
	}
	for _, kind := range []string{"0 true", "0 false", "1 true", "1 false", "2 true", "2 false", "3 true", "3 false"} {
		if met[kind] < 50 {
			t.Errorf("of the drawn files %d alone are %s", met[kind], kind)
		}
	}
}
