package block_test

import (
	"bytes"
	"fmt"
	"math/big"
	"math/rand"
	"slices"
	"testing"

	"turnstile/api"
)

// The chapter's numbers, written out: the tests lean neither on the program's own nor on other layers.
const (
	sector    = 512
	room      = 494
	maxRecord = 200
	maxLsn    = 1 << 62
)

// plainSum does each step of layer 2's sum by itself.
func plainSum(b []byte) uint32 {
	x := uint32(0xffffffff)
	for _, next := range b {
		x ^= uint32(next)
		for range 8 {
			out := x & 1
			x >>= 1
			if out == 1 {
				x ^= 0x82f63b78
			}
		}
	}
	return x ^ 0xffffffff
}

func lowestFirst(x uint64, size int) []byte {
	var out []byte
	for i := range size {
		out = append(out, byte(x>>(8*i)))
	}
	return out
}

func number(b []byte) uint64 {
	var x uint64
	for i := len(b) - 1; i >= 0; i-- {
		x = x<<8 | uint64(b[i])
	}
	return x
}

// summed is b with the sum that it ought to have.
func summed(b []byte) []byte {
	out := bytes.Clone(b)
	copy(out[14:18], make([]byte, 4))
	copy(out[14:18], lowestFirst(uint64(plainSum(out)), 4))
	return out
}

// written is a block with a right sum, whatever stands in it: so many records are told, and body is what stands in the Room.
func written(first uint64, count int, body []byte) []byte {
	out := []byte("TB01")
	out = append(out, lowestFirst(first, 8)...)
	out = append(out, lowestFirst(uint64(count), 2)...)
	out = append(out, 0, 0, 0, 0)
	out = append(out, body...)
	out = append(out, make([]byte, sector-len(out))...)
	return summed(out)
}

// laid is records one behind the other, each with its length ahead.
func laid(records ...[]byte) []byte {
	var out []byte
	for _, record := range records {
		out = append(out, lowestFirst(uint64(len(record)), 2)...)
		out = append(out, record...)
	}
	return out
}

// numbered asks, in numbers without end, whether first is from 1 on and the last one's number is at most MaxLsn.
func numbered(first uint64, count int) bool {
	last := new(big.Int).SetUint64(first)
	last.Add(last, big.NewInt(int64(count)-1))
	return first != 0 && last.Cmp(big.NewInt(maxLsn)) <= 0
}

func longest(records [][]byte) int {
	most := 0
	for _, record := range records {
		most = max(most, len(record))
	}
	return most
}

func plainEncode(first uint64, records [][]byte) ([]byte, error) {
	if len(records) == 0 || !numbered(first, len(records)) {
		return nil, api.ErrArg
	}
	if longest(records) > maxRecord || len(laid(records...)) > room {
		return nil, api.ErrLong
	}
	return written(first, len(records), laid(records...)), nil
}

func plainDecode(b []byte) (uint64, [][]byte, error) {
	if len(b) < sector {
		return 0, nil, api.ErrShort
	}
	if len(b) > sector || !bytes.HasPrefix(b, []byte("TB01")) {
		return 0, nil, api.ErrForm
	}
	if !bytes.Equal(b, summed(b)) {
		return 0, nil, api.ErrSum
	}
	first, count := number(b[4:12]), int(number(b[12:14]))
	var records [][]byte
	place := 18
	for range count {
		if place+2 > sector {
			return 0, nil, api.ErrForm
		}
		end := place + 2 + int(number(b[place:place+2]))
		if end > sector || end-place-2 > maxRecord {
			return 0, nil, api.ErrForm
		}
		records = append(records, bytes.Clone(b[place+2:end]))
		place = end
	}
	if count == 0 || !numbered(first, count) || !bytes.Equal(b[place:], make([]byte, sector-place)) {
		return 0, nil, api.ErrForm
	}
	return first, records, nil
}

func plainPack(first uint64, records [][]byte) ([]byte, error) {
	if len(records) == 0 {
		return nil, nil
	}
	if !numbered(first, len(records)) {
		return nil, api.ErrArg
	}
	if longest(records) > maxRecord {
		return nil, api.ErrLong
	}
	var out []byte
	for at := 0; at < len(records); {
		count := 1
		for at+count < len(records) && len(laid(records[at:at+count+1]...)) <= room {
			count++
		}
		out = append(out, written(first+uint64(at), count, laid(records[at:at+count]...))...)
		at += count
	}
	return out, nil
}

func plainScan(data []byte, bad []int, first uint64) ([][]byte, int) {
	var records [][]byte
	for i := 0; ; i++ {
		if (i+1)*sector > len(data) || slices.Contains(bad, i) {
			return records, i
		}
		have, more, err := plainDecode(data[i*sector : (i+1)*sector])
		if err != nil || have != first+uint64(len(records)) {
			return records, i
		}
		records = append(records, more...)
	}
}

func same(a, b [][]byte) bool {
	return slices.EqualFunc(a, b, bytes.Equal)
}

// tell is a short form of records: their lengths, and their first bytes.
func tell(records [][]byte) string {
	out := fmt.Sprintf("%d records:", len(records))
	for i, record := range records {
		if i == 10 {
			return out + " .."
		}
		out += fmt.Sprintf(" %d*%.4x", len(record), record)
	}
	return out
}

func texts(list ...string) [][]byte {
	var out [][]byte
	for _, s := range list {
		out = append(out, []byte(s))
	}
	return out
}

// sized is records of these lengths, each with bytes of its own.
func sized(lengths ...int) [][]byte {
	var out [][]byte
	for i, length := range lengths {
		out = append(out, bytes.Repeat([]byte{byte(1 + i%255)}, length))
	}
	return out
}

// together is records that take so many bytes of the Room, two or more.
func together(size int) [][]byte {
	var lengths []int
	for size > 0 {
		length := min(size-2, maxRecord)
		if left := size - 2 - length; left == 1 {
			length-- // one byte more is no record
		}
		lengths = append(lengths, length)
		size -= 2 + length
	}
	return sized(lengths...)
}

func empties(count int) [][]byte { return make([][]byte, count) }

// drawn is so many records of lengths up to most, their bytes drawn: often zeros, which also stand behind the last one.
func drawn(r *rand.Rand, count int, most int) [][]byte {
	var out [][]byte
	for range count {
		record := make([]byte, r.Intn(most+1))
		if r.Intn(4) > 0 {
			r.Read(record)
		}
		out = append(out, record)
	}
	return out
}

// drawnFirst is the number of a first record: an ordinary one, or one about the ends.
func drawnFirst(r *rand.Rand) uint64 {
	near := uint64(r.Intn(8))
	switch r.Intn(6) {
	case 0:
		return near
	case 1:
		return maxLsn - near
	case 2:
		return maxLsn + near
	case 3:
		return -near
	case 4:
		return 1 + uint64(r.Int63n(maxLsn))
	}
	return 1 + uint64(r.Intn(1000))
}

func TestPlainHelpers(t *testing.T) {
	if sum := plainSum([]byte("123456789")); sum != 0xe3069283 {
		t.Errorf("plainSum is %08x", sum)
	}
	for size := 2; size <= 2*room; size++ {
		if have := len(laid(together(size)...)); have != size || longest(together(size)) > maxRecord {
			t.Errorf("together(%d) takes %d bytes", size, have)
		}
	}
}
