package block_test

import (
	"bytes"
	"fmt"
	"math/rand"
	"slices"
	"sync"
	"testing"

	"turnstile/block"
)

// withRoom is b with so many spare bytes behind it, filled with a mark.
func withRoom(b []byte, spare int) []byte {
	out := append(bytes.Clone(b), bytes.Repeat([]byte{0x5a}, spare)...)
	return out[:len(b):len(out)]
}

// roomy is records with spare room behind each, and a spare record behind the list.
func roomy(records [][]byte) [][]byte {
	var out [][]byte
	for _, record := range records {
		out = append(out, withRoom(record, 9))
	}
	return append(out, []byte("spare"))[:len(records)]
}

// allOf is a copy of records with all that stands in their spare room, and in the list's.
func allOf(records [][]byte) [][]byte {
	var out [][]byte
	for _, record := range records[:cap(records)] {
		out = append(out, bytes.Clone(record[:cap(record)]))
	}
	return out
}

// scribble writes over all of b, its spare room too.
func scribble(b []byte) {
	b = b[:cap(b)]
	for i := range b {
		b[i] ^= 0xa5
	}
}

// scribbleList writes over each record and then over the list that leads to them.
func scribbleList(records [][]byte) {
	for _, record := range records {
		scribble(record)
	}
	all := records[:cap(records)]
	for i := range all {
		all[i] = []byte("scribbled")
	}
}

func copies(records [][]byte) [][]byte {
	var out [][]byte
	for _, record := range records {
		out = append(out, bytes.Clone(record))
	}
	return out
}

// memoryRows are records of unlike kinds, each of which fits one block.
func memoryRows() [][][]byte {
	r := rand.New(rand.NewSource(88))
	rows := [][][]byte{texts(""), texts("a"), texts("", "x", "", "yz"), sized(200, 200, 88), sized(200), empties(247), together(494)}
	for range 40 {
		rows = append(rows, drawn(r, 1+r.Intn(12), 38))
	}
	return rows
}

func TestRecordsHandedInStayAsTheyWere(t *testing.T) {
	for i, row := range append(memoryRows(), sized(201), empties(248), sized(200, 200, 200), nil) {
		for _, first := range []uint64{0, 1, maxLsn} {
			records := roomy(row)
			ahead := allOf(records)
			one, _ := block.Encode(first, records)
			many, _ := block.Pack(first, records)
			if !same(ahead, allOf(records)) {
				t.Errorf("P8.5: row %d, first %d: what was handed in is written", i, first)
			}
			scribble(one)
			scribble(many)
			if !same(ahead, allOf(records)) {
				t.Errorf("P8.5: row %d, first %d: an answer shares memory with what was handed in", i, first)
			}
		}
	}
}

// TestBlocksAreKeptByNobody: what is written over the records behind a call isn't seen in its answer.
func TestBlocksAreKeptByNobody(t *testing.T) {
	for i, row := range memoryRows() {
		records := roomy(row)
		one, _ := block.Encode(3, records)
		many, _ := block.Pack(3, records)
		again, _ := block.Encode(3, records)
		want := written(3, len(row), laid(row...))
		scribble(again)
		scribbleList(records)
		if !bytes.Equal(one, want) || !bytes.Equal(many, want) {
			t.Errorf("P8.5: row %d: an answer has changed with what was handed in, or with another answer", i)
		}
		scribble(many)
		if !bytes.Equal(one, want) {
			t.Errorf("P8.5: row %d: two answers share memory", i)
		}
	}
}

// expectOwn: records are want; each may be written over, its spare room too, and grown, and the others stay.
func expectOwn(t *testing.T, at string, records, want [][]byte) {
	t.Helper()
	if !same(records, want) {
		t.Fatalf("P8.5: %s: %s, want %s", at, tell(records), tell(want))
	}
	now := copies(records)
	for i, record := range records {
		_ = append(record, "grown"...)
		scribble(record)
		now[i] = bytes.Clone(record)
		if !same(records, now) {
			t.Fatalf("P8.5: %s: record %d shares memory with another one", at, i)
		}
	}
}

func TestRecordsAnsweredAreNewMemory(t *testing.T) {
	for i, row := range memoryRows() {
		at := fmt.Sprint("row ", i)
		b := withRoom(joined(written(3, len(row), laid(row...)), written(3+uint64(len(row)), len(row), laid(row...))), 600)
		bad := []int{7, -1, 9, 88}[:2]
		ahead, aheadBad := bytes.Clone(b[:cap(b)]), slices.Clone(bad[:cap(bad)])

		_, list, _ := block.Decode(b[:sector])
		_, other, _ := block.Decode(b[:sector])
		scanned, _ := block.Scan(b, bad, 3)
		again, _ := block.Scan(b, bad, 3)
		expectOwn(t, at+", Decode", list, row)
		expectOwn(t, at+", Scan", scanned, slices.Concat(row, row))
		scribbleList(list)
		scribbleList(scanned)
		if !bytes.Equal(b[:cap(b)], ahead) || !slices.Equal(bad[:cap(bad)], aheadBad) {
			t.Errorf("P8.5: %s: what was handed in is written", at)
		}
		scribble(b)
		clear(bad)
		expectOwn(t, at+", Decode, behind what was written over the block", other, row)
		expectOwn(t, at+", Scan, behind what was written over the file", again, slices.Concat(row, row))
	}
}

// TestRefusedBytesStayAsTheyWere: also where a fault ends the call.
func TestRefusedBytesStayAsTheyWere(t *testing.T) {
	for i, whole := range goodBlocks() {
		for place := range whole {
			b := withRoom(whole, 5)
			b[place] ^= 1
			ahead := bytes.Clone(b[:cap(b)])
			block.Decode(b)
			block.Decode(b[:place])
			block.Scan(b, nil, 1)
			copy(b, summed(b))
			copy(ahead, b)
			block.Decode(b)
			if !bytes.Equal(b[:cap(b)], ahead) {
				t.Fatalf("P8.5: block %d, byte %d: what was handed in is written", i, place)
			}
		}
	}
}

// TestCallsSideBySide: were something kept from call to call, several goroutines would meet in it.
func TestCallsSideBySide(t *testing.T) {
	rows := memoryRows()
	var workers sync.WaitGroup
	wrong := make([]int, 8)
	for worker := range wrong {
		workers.Go(func() {
			for round := range 400 {
				row := rows[(round+worker)%len(rows)]
				b, err := block.Pack(uint64(1+worker), row)
				list, blocks := block.Scan(b, nil, uint64(1+worker))
				if err != nil || !same(list, row) || blocks != 1 {
					wrong[worker]++
				}
			}
		})
	}
	workers.Wait()
	for worker, count := range wrong {
		if count > 0 {
			t.Errorf("P8.5: worker %d had %d wrong answers beside the others", worker, count)
		}
	}
}
