package block_test

import (
	"bytes"
	"fmt"
	"math/rand"
	"testing"

	"turnstile/api"
	"turnstile/block"
)

// expectEncode holds Encode against the plain reckoning, and what it answers against Decode.
func expectEncode(t *testing.T, first uint64, records [][]byte) {
	t.Helper()
	at := fmt.Sprintf("P8.1: Encode(%d, %s)", first, tell(records))
	want, wantErr := plainEncode(first, records)
	have, err := block.Encode(first, records)
	if err != wantErr || !bytes.Equal(have, want) || err != nil && have != nil {
		t.Fatalf("%s is %x, %v, want %x, %v", at, have, err, want, wantErr)
	}
	if err != nil {
		return
	}
	back, list, err := block.Decode(have)
	if back != first || !same(list, records) || err != nil {
		t.Fatalf("%s is decoded to %d, %s, %v", at, back, tell(list), err)
	}
}

func TestRoom(t *testing.T) {
	if block.Room != room {
		t.Errorf("Room is %d", block.Room)
	}
}

func TestEncodeExamples(t *testing.T) {
	for _, row := range []struct {
		first   uint64
		records [][]byte
		begin   string
	}{
		{1, texts("abc"), "TB01\x01\x00\x00\x00\x00\x00\x00\x00\x01\x00\x45\xda\x3a\xc3\x03\x00abc"},
		{5, texts("", "x"), "TB01\x05\x00\x00\x00\x00\x00\x00\x00\x02\x00\x5e\xf9\x69\xae\x00\x00\x01\x00x"},
	} {
		want := append([]byte(row.begin), make([]byte, sector-len(row.begin))...)
		if have, err := block.Encode(row.first, row.records); !bytes.Equal(have, want) || err != nil {
			t.Errorf("P8.1: Encode(%d, %q) is %x, %v, want %x", row.first, row.records, have, err, want)
		}
	}
}

// TestEncodeErrors: of each row the error is written out, so that the plain reckoning isn't leant on.
func TestEncodeErrors(t *testing.T) {
	for _, row := range []struct {
		first   uint64
		records [][]byte
		want    error
	}{
		{1, nil, api.ErrArg},
		{1, [][]byte{}, api.ErrArg},
		{0, nil, api.ErrArg},
		{maxLsn, nil, api.ErrArg},
		{maxLsn + 1, nil, api.ErrArg},
		{0, texts("a"), api.ErrArg},
		{1, texts("a"), nil},
		{0, texts("a", "b"), api.ErrArg},
		{0, sized(201), api.ErrArg},
		{0, empties(248), api.ErrArg},
		{maxLsn, texts("a"), nil},
		{maxLsn, texts("a", "b"), api.ErrArg},
		{maxLsn - 1, texts("a", "b"), nil},
		{maxLsn - 1, texts("a", "b", "c"), api.ErrArg},
		{maxLsn - 246, empties(247), nil},
		{maxLsn - 245, empties(247), api.ErrArg},
		{maxLsn - 247, empties(248), api.ErrLong},
		{maxLsn - 246, empties(248), api.ErrArg},
		{maxLsn + 1, texts("a"), api.ErrArg},
		{maxLsn, sized(201), api.ErrLong},
		{maxLsn, sized(201, 1), api.ErrArg},
		{1<<63 - 1, texts("a"), api.ErrArg},
		{1 << 63, texts("a"), api.ErrArg},
		{1<<64 - 1, texts("a"), api.ErrArg},
		{1<<64 - 1, texts("a", "b"), api.ErrArg},
		{1<<64 - 1, texts("a", "b", "c"), api.ErrArg},
		{1<<64 - 1, sized(201, 0, 0), api.ErrArg},
		{1<<64 - 200, empties(247), api.ErrArg},
		{1, sized(200), nil},
		{1, sized(201), api.ErrLong},
		{1, sized(0, 201), api.ErrLong},
		{1, sized(202), api.ErrLong},
		{1, sized(494), api.ErrLong},
		{1, sized(65536), api.ErrLong},
		{1, sized(200, 200, 87), nil},
		{1, sized(200, 200, 88), nil},
		{1, sized(200, 200, 89), api.ErrLong},
		{1, sized(200, 200, 85, 0), nil},
		{1, sized(200, 200, 86, 0), nil},
		{1, sized(200, 200, 87, 0), api.ErrLong},
		{1, sized(200, 200, 88, 0), api.ErrLong},
		{1, sized(88, 200, 200), nil},
		{1, sized(89, 200, 200), api.ErrLong},
		{1, empties(247), nil},
		{1, empties(248), api.ErrLong},
		{1, empties(65536), api.ErrLong},
		{1, empties(65537), api.ErrLong},
	} {
		have, err := block.Encode(row.first, row.records)
		if err != row.want || err != nil && have != nil || err == nil && len(have) != sector {
			t.Errorf("P8.1: Encode(%d, %s) is %d bytes, %v, want %v", row.first, tell(row.records), len(have), err, row.want)
		}
		expectEncode(t, row.first, row.records)
	}
}

func TestEncodeRecordsOfAllLengths(t *testing.T) {
	for length := range 260 {
		expectEncode(t, 1, sized(length))
		expectEncode(t, 9, sized(0, length, 1))
		expectEncode(t, 300, [][]byte{make([]byte, length), {7}})
	}
}

func TestEncodeAllSumsOfLengths(t *testing.T) {
	for size := 2; size <= room+10; size++ {
		_, err := block.Encode(4, together(size))
		if fits := size <= 494; fits != (err == nil) {
			t.Errorf("P8.1: Encode of records that take %d bytes of the Room: %v", size, err)
		}
		expectEncode(t, 4, together(size))
	}
	for count := range 260 {
		expectEncode(t, 4, empties(count))
	}
}

func TestEncodeNumbers(t *testing.T) {
	for bit := range 64 {
		for less := range uint64(4) {
			for count := range 4 {
				expectEncode(t, 1<<bit-less, sized(5, 0, 6)[:count])
			}
		}
	}
}

func TestEncodeDrawn(t *testing.T) {
	r := rand.New(rand.NewSource(81))
	for range 6000 {
		count, most := r.Intn(8), 1+r.Intn(202)
		if r.Intn(4) == 0 {
			count, most = r.Intn(260), r.Intn(3)
		}
		expectEncode(t, drawnFirst(r), drawn(r, count, most))
	}
}
