package block_test

import (
	"bytes"
	"fmt"
	"math"
	"math/rand"
	"slices"
	"testing"

	"turnstile/block"
)

func expectScan(t *testing.T, at string, data []byte, bad []int, first uint64) ([][]byte, int) {
	t.Helper()
	want, wantBlocks := plainScan(data, bad, first)
	have, blocks := block.Scan(data, bad, first)
	if !same(have, want) || blocks != wantBlocks {
		t.Fatalf("P8.3: %s: Scan of %d bytes, bad %v, first %d, is %s, %d blocks, want %s, %d blocks", at, len(data), bad, first, tell(have), blocks, tell(want), wantBlocks)
	}
	return have, blocks
}

// oneEach is blocks with one record each, numbered from first on: a, b, and so on.
func oneEach(first uint64, count int) []byte {
	var out []byte
	for i := range count {
		out = append(out, written(first+uint64(i), 1, laid([]byte{byte('a' + i)}))...)
	}
	return out
}

func joined(pieces ...[]byte) []byte { return bytes.Join(pieces, nil) }

// TestScanRows: what is answered is written out; the records are of one byte each.
func TestScanRows(t *testing.T) {
	two := written(7, 2, laid(texts("a", "b")...))
	three := oneEach(7, 3)
	hole := make([]byte, sector)
	junk := bytes.Repeat([]byte("junk"), sector/4)
	full := written(7, 247, nil)
	for _, row := range []struct {
		what   string
		data   []byte
		bad    []int
		first  uint64
		want   string
		blocks int
	}{
		{"nothing", nil, nil, 1, "", 0},
		{"nothing, and bad sectors", nil, []int{0, 1}, 1, "", 0},
		{"one block", two, nil, 7, "ab", 1},
		{"a first number of one more", two, nil, 8, "", 0},
		{"a first number of one less", two, nil, 6, "", 0},
		{"a first number of 0", two, nil, 0, "", 0},
		{"the greatest first number", two, nil, math.MaxUint64, "", 0},
		{"one block that is bad", two, []int{0}, 7, "", 0},
		{"100 zeros behind", joined(two, hole[:100]), nil, 7, "ab", 1},
		{"100 bytes of a block behind", joined(two, oneEach(9, 1)[:100]), nil, 7, "ab", 1},
		{"511 bytes of a block behind", joined(two, oneEach(9, 1)[:511]), nil, 7, "ab", 1},
		{"511 bytes of a block alone", two[:511], nil, 7, "", 0},
		{"1 byte alone", two[:1], nil, 7, "", 0},
		{"zeros alone", make([]byte, 5*sector), nil, 0, "", 0},
		{"blocks of unlike sizes", joined(two, oneEach(9, 1)), nil, 7, "aba", 2},
		{"three blocks", three, nil, 7, "abc", 3},
		{"from the second one's number on", three, nil, 8, "", 0},
		{"a hole behind", joined(three, hole), nil, 7, "abc", 3},
		{"a hole behind, and good ones", joined(three, hole, oneEach(10, 2)), nil, 7, "abc", 3},
		{"a hole in front", joined(hole, three), nil, 7, "", 0},
		{"junk behind, and good ones", joined(three, junk, oneEach(10, 2)), nil, 7, "abc", 3},
		{"a gap in the numbers", joined(three, oneEach(11, 2)), nil, 7, "abc", 3},
		{"a gap in the numbers, which goes on in order", joined(three, oneEach(11, 1), oneEach(10, 1)), nil, 7, "abc", 3},
		{"the same block again", joined(three, three), nil, 7, "abc", 3},
		{"the last block again", joined(three, three[2*sector:]), nil, 7, "abc", 3},
		{"a number of one less behind two records", joined(two, oneEach(8, 1)), nil, 7, "ab", 1},
		{"a number of one more behind two records", joined(two, oneEach(10, 1)), nil, 7, "ab", 1},
		{"the number 1 behind", joined(three, oneEach(1, 2)), nil, 7, "abc", 3},
		{"a block that isn't full in the midst", joined(oneEach(5, 2), two, oneEach(9, 1)), nil, 5, "ababa", 4},
		{"blocks that begin within a sector", joined([]byte{0}, three), nil, 7, "", 0},
		{"the last numbers", oneEach(maxLsn-1, 2), nil, maxLsn - 1, "ab", 2},
		{"a block behind the last number", joined(oneEach(maxLsn-1, 2), oneEach(maxLsn+1, 1)), nil, maxLsn - 1, "ab", 2},
		{"numbers above the last one", oneEach(maxLsn+1, 2), nil, maxLsn + 1, "", 0},
		{"the number 0", oneEach(0, 2), nil, 0, "", 0},
		{"the greatest number, and 0", oneEach(math.MaxUint64, 2), nil, math.MaxUint64, "", 0},

		{"bad: the first", three, []int{0}, 7, "", 0},
		{"bad: the second", three, []int{1}, 7, "a", 1},
		{"bad: the last", three, []int{2}, 7, "ab", 2},
		{"bad: the one behind the end", three, []int{3}, 7, "abc", 3},
		{"bad: below 0", three, []int{-1, -3, math.MinInt}, 7, "abc", 3},
		{"bad: far behind the end", three, []int{math.MaxInt, 512, 1024}, 7, "abc", 3},
		{"bad: falling", three, []int{2, 1}, 7, "a", 1},
		{"bad: rising", three, []int{1, 2}, 7, "a", 1},
		{"bad: a number twice", three, []int{2, 2, 1, 1}, 7, "a", 1},
		{"bad: in any order", three, []int{9, -1, 2, math.MaxInt, 1, math.MinInt, 2, 3}, 7, "a", 1},
		{"bad: behind a hole", joined(three[:sector], hole, three[sector:]), []int{2, 3}, 7, "a", 1},
		{"bad: ahead of a hole", joined(three, hole), []int{1}, 7, "a", 1},
		{"bad: the part behind", joined(three, hole[:9]), []int{3}, 7, "abc", 3},
	} {
		records, blocks := expectScan(t, row.what, row.data, row.bad, row.first)
		if have := string(joined(records...)); have != row.want || len(records) != len(row.want) || blocks != row.blocks {
			t.Errorf("P8.3: %s: %q, %d blocks, want %q, %d blocks", row.what, have, blocks, row.want, row.blocks)
		}
	}
	data := joined(full, written(254, 3, laid(sized(200, 200, 88)...)), oneEach(257, 2), written(259, 247, nil))
	if records, blocks := expectScan(t, "full blocks and others", data, nil, 7); len(records) != 247+3+2+247 || blocks != 5 {
		t.Errorf("P8.3: full blocks and others: %d records, %d blocks", len(records), blocks)
	}
}

// TestScanTheFirstOtherSector: in a row of blocks one is made another, in each way, and what stands behind it isn't told.
func TestScanTheFirstOtherSector(t *testing.T) {
	const count = 6
	data := oneEach(20, count)
	ways := map[string]func(b []byte){
		"turned":             func(b []byte) { b[300] ^= 1 },
		"another mark":       func(b []byte) { b[0] = 't'; copy(b, summed(b)) },
		"a hole":             func(b []byte) { clear(b) },
		"not in form":        func(b []byte) { b[511] = 1; copy(b, summed(b)) },
		"one number more":    func(b []byte) { b[4]++; copy(b, summed(b)) },
		"one number less":    func(b []byte) { b[4]--; copy(b, summed(b)) },
		"another high digit": func(b []byte) { b[11] = 1; copy(b, summed(b)) },
		"one record more":    nil,
	}
	for what, change := range ways {
		for place := range count {
			other := bytes.Clone(data)
			b := other[place*sector : (place+1)*sector]
			good := place
			if change == nil {
				// The block itself is good; it is the next one whose number isn't due any more.
				b[12]++
				copy(b, summed(b))
				good++
			} else {
				change(b)
			}
			if _, blocks := expectScan(t, what, other, nil, 20); blocks != good {
				t.Errorf("P8.3: block %d %s: %d blocks, want %d", place, what, blocks, good)
			}
		}
	}
	for place := range count {
		records, blocks := expectScan(t, "bad", data, []int{place}, 20)
		if blocks != place || string(joined(records...)) != "abcdef"[:place] {
			t.Errorf("P8.3: block %d bad: %q, %d blocks", place, records, blocks)
		}
	}
}

// TestScanOfEveryCut: of each beginning of a file, sector by sector and byte by byte, the beginning is told.
func TestScanOfEveryCut(t *testing.T) {
	r := rand.New(rand.NewSource(86))
	data, _ := plainPack(900, drawn(r, 25, 200))
	data = append(data, bytes.Repeat([]byte{9}, 700)...)
	whole, blocks := expectScan(t, "whole", data, nil, 900)
	for size := range len(data) + 1 {
		if size%sector > 2 && size%sector < sector-2 && size%37 > 0 {
			continue
		}
		records, count := block.Scan(data[:size], nil, 900)
		if count != min(size/sector, blocks) || len(records) > len(whole) || !same(records, whole[:len(records)]) {
			t.Fatalf("P8.3: of %d bytes: %s, %d blocks", size, tell(records), count)
		}
		if size%sector == 0 {
			expectScan(t, "cut", data[:size], nil, 900)
		}
	}
}

// drawnFile is a file that has good blocks and others, of any length.
func drawnFile(r *rand.Rand, first uint64) []byte {
	var data []byte
	for range r.Intn(7) {
		records := drawn(r, 1+r.Intn(4), 120)
		number := first
		if r.Intn(12) == 0 {
			number += uint64(r.Intn(5)) - 2
		}
		b := written(number, len(records), laid(records...))
		switch r.Intn(24) {
		case 0:
			b[r.Intn(sector)] ^= byte(1 + r.Intn(255))
		case 1:
			clear(b)
		case 2:
			b[4+r.Intn(30)] ^= byte(1 << r.Intn(8))
			b = summed(b)
		case 3:
			r.Read(b)
		}
		data = append(data, b...)
		first += uint64(len(records))
	}
	if r.Intn(3) == 0 {
		data = append(data, make([]byte, r.Intn(sector))...)
	}
	if r.Intn(8) == 0 {
		data = data[:r.Intn(len(data)+1)]
	}
	return data
}

func drawnBad(r *rand.Rand) []int {
	var bad []int
	for r.Intn(3) == 0 {
		bad = append(bad, []int{r.Intn(8), r.Intn(12) - 4, math.MaxInt, math.MinInt}[r.Intn(4)])
	}
	return bad
}

func TestScanDrawn(t *testing.T) {
	r := rand.New(rand.NewSource(87))
	met := map[int]int{}
	for round := range 6000 {
		first := drawnFirst(r)
		data, bad := drawnFile(r, first), drawnBad(r)
		due := first
		if r.Intn(20) == 0 {
			due = drawnFirst(r)
		}
		at := fmt.Sprint("drawn file ", round)
		whole, blocks := expectScan(t, at, data, bad, due)
		met[blocks]++
		for sectors := range len(data)/sector + 1 {
			part, count := block.Scan(data[:sectors*sector], bad, due)
			if count != min(sectors, blocks) || !same(part, whole[:min(len(part), len(whole))]) {
				t.Fatalf("P8.3: %s cut to %d sectors: %s, %d blocks; whole: %s, %d blocks", at, sectors, tell(part), count, tell(whole), blocks)
			}
		}
		backwards := slices.Clone(bad)
		slices.Reverse(backwards)
		if again, count := block.Scan(data, append(backwards, bad...), due); !same(again, whole) || count != blocks {
			t.Fatalf("P8.3: %s: bad %v and the same the other way round and twice have unlike answers", at, bad)
		}
	}
	for blocks := range 6 {
		if met[blocks] < 50 {
			t.Errorf("of the drawn files %d alone have %d good blocks", met[blocks], blocks)
		}
	}
}
