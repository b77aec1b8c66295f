package block_test

import (
	"bytes"
	"fmt"
	"math/rand"
	"testing"

	"turnstile/api"
	"turnstile/block"
)

// expectPack holds Pack against the plain reckoning, each of its blocks against Encode, and the whole against Scan.
func expectPack(t *testing.T, first uint64, records [][]byte) {
	t.Helper()
	at := fmt.Sprintf("P8.2: Pack(%d, %s)", first, tell(records))
	want, wantErr := plainPack(first, records)
	have, err := block.Pack(first, records)
	if err != wantErr || !bytes.Equal(have, want) || err != nil && have != nil {
		t.Fatalf("%s is %d bytes, %v, want %d bytes, %v", at, len(have), err, len(want), wantErr)
	}
	if err != nil || len(records) == 0 {
		return
	}
	list, blocks := block.Scan(have, nil, first)
	if !same(list, records) || blocks*sector != len(have) {
		t.Fatalf("%s has %d bytes and is scanned to %s, %d blocks", at, len(have), tell(list), blocks)
	}
	next := first
	for i := range blocks {
		_, inIt, _ := block.Decode(have[i*sector : (i+1)*sector])
		if b, err := block.Encode(next, inIt); !bytes.Equal(b, have[i*sector:(i+1)*sector]) || err != nil {
			t.Fatalf("%s: block %d isn't Encode's", at, i)
		}
		next += uint64(len(inIt))
	}
}

// TestPackBlocks: how many blocks, and how many records in each, is written out.
func TestPackBlocks(t *testing.T) {
	for _, row := range []struct {
		records [][]byte
		counts  []int
	}{
		{sized(200, 200, 200), []int{2, 1}},
		{texts("a", "b"), []int{2}},
		{texts(""), []int{1}},
		{sized(200), []int{1}},
		{sized(200, 200, 87), []int{3}},
		{sized(200, 200, 88), []int{3}},
		{sized(200, 200, 89), []int{2, 1}},
		{sized(200, 200, 88, 0), []int{3, 1}},
		{sized(200, 200, 86, 0), []int{4}},
		{sized(200, 200, 87, 0), []int{3, 1}},
		{sized(200, 200, 89, 0), []int{2, 2}},
		{sized(200, 200, 200, 0, 1), []int{2, 3}},
		{sized(1, 200, 200, 200, 200, 1), []int{3, 3}},
		{empties(247), []int{247}},
		{empties(248), []int{247, 1}},
		{empties(494), []int{247, 247}},
		{empties(495), []int{247, 247, 1}},
	} {
		b, err := block.Pack(40, row.records)
		if err != nil || len(b) != sector*len(row.counts) {
			t.Errorf("P8.2: Pack of %s is %d bytes, %v, want %d blocks", tell(row.records), len(b), err, len(row.counts))
			continue
		}
		first := uint64(40)
		for i, count := range row.counts {
			have, records, err := block.Decode(b[i*sector : (i+1)*sector])
			if have != first || len(records) != count || err != nil {
				t.Errorf("P8.2: Pack of %s: block %d has %d records from %d on, %v, want %d from %d on", tell(row.records), i, len(records), have, err, count, first)
			}
			first += uint64(count)
		}
		expectPack(t, 40, row.records)
	}
}

func TestPackErrors(t *testing.T) {
	for _, first := range []uint64{0, 1, maxLsn, maxLsn + 1, 1<<64 - 1} {
		for _, none := range [][][]byte{nil, {}} {
			if b, err := block.Pack(first, none); len(b) != 0 || err != nil {
				t.Errorf("P8.2: Pack(%d, none) is %d bytes, %v", first, len(b), err)
			}
		}
	}
	for _, row := range []struct {
		first   uint64
		records [][]byte
		want    error
	}{
		{0, texts("a"), api.ErrArg},
		{0, empties(300), api.ErrArg},
		{0, sized(201), api.ErrArg},
		{1, sized(200), nil},
		{1, sized(201), api.ErrLong},
		{1, sized(0, 0, 200, 200, 200, 201), api.ErrLong},
		{1, sized(201, 0, 0), api.ErrLong},
		{1, sized(0, 65536, 0), api.ErrLong},
		{maxLsn, texts("a"), nil},
		{maxLsn, texts("a", "b"), api.ErrArg},
		{maxLsn, sized(201), api.ErrLong},
		{maxLsn, sized(201, 201), api.ErrArg},
		{maxLsn + 1, texts("a"), api.ErrArg},
		{maxLsn - 2, sized(200, 200, 200), nil},
		{maxLsn - 1, sized(200, 200, 200), api.ErrArg},
		{maxLsn - 999, empties(1000), nil},
		{maxLsn - 998, empties(1000), api.ErrArg},
		{1<<64 - 1, texts("a"), api.ErrArg},
		{1<<64 - 1, texts("a", "b"), api.ErrArg},
		{1<<64 - 1, texts("a", "b", "c"), api.ErrArg},
		{1<<64 - 500, empties(1000), api.ErrArg},
	} {
		b, err := block.Pack(row.first, row.records)
		if err != row.want || err != nil && b != nil {
			t.Errorf("P8.2: Pack(%d, %s) is %d bytes, %v, want %v", row.first, tell(row.records), len(b), err, row.want)
		}
		expectPack(t, row.first, row.records)
	}
}

func TestPackAllSumsOfLengths(t *testing.T) {
	for size := 2; size <= 3*room; size++ {
		expectPack(t, 4, together(size))
	}
	for length := range 210 {
		expectPack(t, 4, sized(length, length, length, length, length, length, length))
	}
}

// leastBlocks tries every cut of records into blocks.
func leastBlocks(records [][]byte) int {
	if len(records) == 0 {
		return 0
	}
	least := len(records)
	for count := range len(records) {
		ahead := records[:count+1]
		if len(laid(ahead...)) <= room {
			least = min(least, 1+leastBlocks(records[count+1:]))
		}
	}
	return least
}

func TestPackHasTheFewestBlocks(t *testing.T) {
	r := rand.New(rand.NewSource(83))
	for range 400 {
		records := drawn(r, 1+r.Intn(10), []int{200, 200, 150, 50}[r.Intn(4)])
		b, err := block.Pack(7, records)
		if least := leastBlocks(records); err != nil || len(b) != least*sector {
			t.Errorf("P8.2: Pack of %s is %d bytes, %v, and %d blocks hold it", tell(records), len(b), err, least)
		}
	}
}

func TestPackDrawn(t *testing.T) {
	r := rand.New(rand.NewSource(84))
	for range 1500 {
		count, most := r.Intn(30), 1+r.Intn(201)
		if r.Intn(4) == 0 {
			count, most = r.Intn(700), r.Intn(3)
		}
		expectPack(t, drawnFirst(r), drawn(r, count, most))
	}
}

// TestPackMany: as many records as fill more blocks than a segment has.
func TestPackMany(t *testing.T) {
	expectPack(t, 1, drawn(rand.New(rand.NewSource(85)), 6000, 200))
}
