package block_test

import (
	"bytes"
	"fmt"
	"math/rand"
	"testing"

	"turnstile/api"
	"turnstile/block"
)

// expectDecode holds Decode against the plain reckoning, and what it answers against Encode.
func expectDecode(t *testing.T, at string, b []byte) error {
	t.Helper()
	wantFirst, want, wantErr := plainDecode(b)
	first, have, err := block.Decode(b)
	if first != wantFirst || !same(have, want) || err != wantErr {
		t.Fatalf("P8.1: %s: Decode of %x is %d, %s, %v, want %d, %s, %v", at, b, first, tell(have), err, wantFirst, tell(want), wantErr)
	}
	if err != nil {
		return err
	}
	if back, err := block.Encode(first, have); !bytes.Equal(back, b) || err != nil {
		t.Fatalf("P8.1: %s: what Decode took of %x is encoded to %x, %v", at, b, back, err)
	}
	return nil
}

// goodBlocks are blocks of unlike kinds: short, full, of many records, of zeros, about the ends of numbers.
func goodBlocks() [][]byte {
	var out [][]byte
	for _, row := range []struct {
		first   uint64
		records [][]byte
	}{
		{1, texts("abc")},
		{5, texts("", "x")},
		{1, empties(1)},
		{700, empties(247)},
		{3, sized(200, 200, 88)},
		{3, sized(200, 200, 87)},
		{1 << 40, [][]byte{make([]byte, 200), make([]byte, 200), make([]byte, 88)}},
		{maxLsn, sized(200)},
		{maxLsn - 2, sized(1, 2, 3)},
	} {
		out = append(out, written(row.first, len(row.records), laid(row.records...)))
	}
	return out
}

func TestDecodeLengths(t *testing.T) {
	b := goodBlocks()[0]
	long := append(bytes.Clone(b), goodBlocks()[1]...)
	for _, row := range []struct {
		b    []byte
		want error
	}{
		{nil, api.ErrShort},
		{b[:1], api.ErrShort},
		{b[:4], api.ErrShort},
		{b[:18], api.ErrShort},
		{b[:511], api.ErrShort},
		{b, nil},
		{b[1:], api.ErrShort},
		{long[:513], api.ErrForm},
		{append(bytes.Clone(b), 0), api.ErrForm},
		{long[:1023], api.ErrForm},
		{long, api.ErrForm},
		{make([]byte, 511), api.ErrShort},
		{make([]byte, 512), api.ErrForm},
		{make([]byte, 513), api.ErrForm},
	} {
		first, records, err := block.Decode(row.b)
		if err != row.want || err != nil && (first != 0 || len(records) != 0) {
			t.Errorf("P8.1: Decode of %d bytes is %d, %s, %v, want %v", len(row.b), first, tell(records), err, row.want)
		}
	}
	for length := range 1100 {
		expectDecode(t, fmt.Sprint(length, " bytes"), append(bytes.Clone(long), long...)[:length])
	}
}

// TestDecodeWhichErrorIsFirst: of blocks that have two faults.
func TestDecodeWhichErrorIsFirst(t *testing.T) {
	otherMark := bytes.Clone(goodBlocks()[0])
	otherMark[3] = '2'
	otherSum := bytes.Clone(goodBlocks()[0])
	otherSum[14]++
	noForm := written(0, 0, nil)
	noForm[17] ^= 128
	for _, row := range []struct {
		what string
		b    []byte
		want error
	}{
		{"short, another mark", otherMark[:511], api.ErrShort},
		{"short, another sum", otherSum[:511], api.ErrShort},
		{"long, another sum", append(bytes.Clone(otherSum), 0), api.ErrForm},
		{"another mark, and so another sum", otherMark, api.ErrForm},
		{"another mark, the right sum", summed(otherMark), api.ErrForm},
		{"another sum", otherSum, api.ErrSum},
		{"another sum, not in form", noForm, api.ErrSum},
		{"the right sum, not in form", summed(noForm), api.ErrForm},
	} {
		if err := expectDecode(t, row.what, row.b); err != row.want {
			t.Errorf("P8.1: %s: %v, want %v", row.what, err, row.want)
		}
	}
}

// TestDecodeForm: the sum is right, and the form isn't, or is just about.
func TestDecodeForm(t *testing.T) {
	full := laid(sized(200, 200, 88)...)
	for _, row := range []struct {
		what  string
		first uint64
		count int
		body  []byte
		want  error
	}{
		{"the first number 0", 0, 1, laid(sized(3)...), api.ErrForm},
		{"the first number 1", 1, 1, laid(sized(3)...), nil},
		{"the first number MaxLsn", maxLsn, 1, laid(sized(3)...), nil},
		{"the first number above MaxLsn", maxLsn + 1, 1, laid(sized(3)...), api.ErrForm},
		{"the last number MaxLsn", maxLsn - 1, 2, laid(sized(3, 4)...), nil},
		{"the last number above MaxLsn", maxLsn, 2, laid(sized(3, 4)...), api.ErrForm},
		{"the greatest number", 1<<64 - 1, 1, laid(sized(3)...), api.ErrForm},
		{"a last number of 2^64", 1<<64 - 1, 2, laid(sized(3, 4)...), api.ErrForm},
		{"a last number beyond 2^64", 1<<64 - 1, 3, laid(sized(3, 4, 5)...), api.ErrForm},
		{"a last number far beyond 2^64", 1<<64 - 3, 247, nil, api.ErrForm},
		{"no records", 1, 0, nil, api.ErrForm},
		{"no records, the first number 0", 0, 0, nil, api.ErrForm},
		{"no records, and bytes", 1, 0, laid(sized(3)...), api.ErrForm},
		{"one empty record", 1, 1, nil, nil},
		{"247 empty records", 1, 247, nil, nil},
		{"248 empty records", 1, 248, nil, api.ErrForm},
		{"65535 empty records", 1, 65535, nil, api.ErrForm},
		{"a count of one less than is there", 1, 1, laid(sized(3, 4)...), api.ErrForm},
		{"a count of one more, for which zeros are there", 1, 3, laid(sized(3, 4)...), nil},
		{"a count of one more than is there", 1, 4, full, api.ErrForm},
		{"a count of one less than is there, the last one empty", 1, 2, laid(sized(3, 4, 0)...), nil},
		{"a length of 200", 1, 1, laid(sized(200)...), nil},
		{"a length of 201", 1, 1, laid(sized(201)...), api.ErrForm},
		{"a length of 201, with 201 zeros", 1, 1, []byte{201}, api.ErrForm},
		{"a length of 492, which fills the Room", 1, 1, laid(sized(492)...), api.ErrForm},
		{"a length of 256, whose lower byte is 0", 1, 1, []byte{0, 1}, api.ErrForm},
		{"a length of 65535", 1, 1, []byte{255, 255}, api.ErrForm},
		{"a second length of 201", 1, 2, laid(sized(1, 201)...), api.ErrForm},
		{"the last record ends where the block does", 1, 3, full, nil},
		{"the last record ends one byte behind the block", 1, 3, laid(sized(200, 200, 89)...)[:room], api.ErrForm},
		{"the last record ends 112 bytes behind the block", 1, 3, laid(sized(200, 200, 200)...)[:room], api.ErrForm},
		{"a length of which one byte is there", 1, 4, laid(sized(200, 200, 87)...), api.ErrForm},
		{"a length of which no byte is there", 1, 4, full, api.ErrForm},
		{"a length at the end, of 0", 1, 4, laid(sized(200, 200, 86, 0)...), nil},
		{"a length at the end, of 1", 1, 4, laid(sized(200, 200, 86, 1)...)[:room], api.ErrForm},
		{"a byte that isn't 0 right behind the last record", 1, 1, append(laid(sized(3)...), 1), api.ErrForm},
		{"the block's last byte isn't 0", 1, 3, append(laid(sized(200, 200, 87)...), 1), api.ErrForm},
		{"the block's last byte isn't 0, far behind", 1, 1, append(make([]byte, room-1), 128), api.ErrForm},
	} {
		if err := expectDecode(t, row.what, written(row.first, row.count, row.body)); err != row.want {
			t.Errorf("P8.1: %s: %v, want %v", row.what, err, row.want)
		}
	}
}

// TestDecodeAnyByteBehind: a byte that isn't 0 behind the last record is met wherever it stands.
func TestDecodeAnyByteBehind(t *testing.T) {
	for place := range room - 3 {
		body := append(laid(sized(1)...), make([]byte, room-3)...)
		body[3+place] = byte(1 << (place % 8))
		if _, _, err := block.Decode(written(1, 1, body)); err != api.ErrForm {
			t.Errorf("P8.1: a byte %d behind the last record: %v", place, err)
		}
	}
}

// TestDecodeAllCounts: one and the same Room, and each count told of it.
func TestDecodeAllCounts(t *testing.T) {
	for _, body := range [][]byte{nil, laid(sized(3, 0, 9)...), laid(sized(200, 200, 88)...), laid(empties(100)...)} {
		for count := range 300 {
			expectDecode(t, fmt.Sprint("a count of ", count), written(6, count, body))
		}
	}
}

// TestDecodeDrawn turns bytes of good blocks and sums them anew, so that the form alone is asked.
func TestDecodeDrawn(t *testing.T) {
	r := rand.New(rand.NewSource(82))
	list := goodBlocks()
	met := map[error]int{}
	for range 12000 {
		b := bytes.Clone(list[r.Intn(len(list))])
		for range r.Intn(3) {
			b[4+r.Intn(24)] = byte(r.Intn(256) >> r.Intn(9))
		}
		if r.Intn(2) == 0 {
			b[18+r.Intn(room)] = byte(r.Intn(256))
		}
		if r.Intn(8) > 0 {
			b = summed(b)
		}
		met[expectDecode(t, "drawn", b)]++
	}
	for _, err := range []error{nil, api.ErrForm, api.ErrSum} {
		if met[err] < 500 {
			t.Errorf("of the drawn blocks %d alone are answered %v", met[err], err)
		}
	}
}

// TestOneByteTurned: each of the bytes, in blocks of unlike kinds; in two of them by each other value.
func TestOneByteTurned(t *testing.T) {
	for i, b := range goodBlocks() {
		first, _, err := block.Decode(b)
		if err != nil {
			t.Fatalf("P8.4: block %d isn't taken: %v", i, err)
		}
		for place := range b {
			want := api.ErrSum
			if place < 4 {
				want = api.ErrForm
			}
			for _, difference := range differences(i, place) {
				turned := bytes.Clone(b)
				turned[place] ^= difference
				if _, records, err := block.Decode(turned); err != want || len(records) > 0 {
					t.Fatalf("P8.4: block %d, byte %d turned by %02x: Decode is %s, %v, want %v", i, place, difference, tell(records), err, want)
				}
				expectNoScan(t, turned, first, fmt.Sprintf("block %d, byte %d turned by %02x", i, place, difference))
			}
		}
	}
}

// differences: all of them for the first two blocks, some for the others.
func differences(i, place int) []byte {
	if i >= 2 {
		return []byte{1, 128, 255, byte(1 + (i*7+place)%255)}
	}
	var out []byte
	for d := 1; d < 256; d++ {
		out = append(out, byte(d))
	}
	return out
}

// expectNoScan: whichever number is due, the one that the block had or the one that now stands in it.
func expectNoScan(t *testing.T, turned []byte, first uint64, at string) {
	t.Helper()
	for _, due := range []uint64{first, number(turned[4:12])} {
		if records, blocks := block.Scan(turned, nil, due); len(records) > 0 || blocks != 0 {
			t.Fatalf("P8.4: %s: Scan is %s, %d blocks", at, tell(records), blocks)
		}
	}
}
