package image_test

import (
	"bytes"
	"encoding/binary"
	"fmt"
	"strings"
	"testing"

	"turnstile/api"
)

// TestShortBytes: fewer than 28, whatever they are, also where the mark and the sum are right.
func TestShortBytes(t *testing.T) {
	for length := range 28 {
		what := fmt.Sprint(length, " bytes")
		for x := range 256 {
			expectFault(t, what, bytes.Repeat([]byte{byte(x)}, length), api.ErrShort)
		}
		for _, s := range smallStates() {
			b := laidState(s)
			expectFault(t, what+", the rest in the spare room", b[:length], api.ErrShort)
			if length >= 4 {
				expectFault(t, what+", the sum right", sealed(b[:length-4]), api.ErrShort)
			}
		}
	}
	for x := range 256 {
		b := bytes.Repeat([]byte{byte(x)}, 28)
		expectFault(t, "28 bytes", b, api.ErrForm)
		expectFault(t, "28 bytes, the sum right", resealed(b), api.ErrForm)
		copy(b, "TI01")
		expectFault(t, "28 bytes behind the mark", b, api.ErrSum)
	}
}

// TestOtherBeginnings: each of the first four bytes made every other one, with the sum as it was and with one that fits.
func TestOtherBeginnings(t *testing.T) {
	list := []string{"TI00", "TI10", "ti01", "TB01", "I01T", "10IT", "\x00\x00\x00\x00", "\xff\xff\xff\xff", "TI0\x00", "\x00TI0"}
	for at := range 4 {
		for x := range 256 {
			if other := []byte("TI01"); other[at] != byte(x) {
				other[at] = byte(x)
				list = append(list, string(other))
			}
		}
	}
	for _, s := range []api.State{{}, abc(), allKeys()} {
		for _, begin := range list {
			b := laidState(s)
			copy(b, begin)
			expectFault(t, "another beginning", b, api.ErrForm)
			expectFault(t, "another beginning, the sum right", resealed(b), api.ErrForm)
		}
	}
}

func TestOtherSums(t *testing.T) {
	for _, s := range append(smallStates(), stateOf(9, 5, manyKeys(full)...)) {
		whole := laidState(s)
		ahead := whole[:len(whole)-4]
		sum := plainSum(ahead)
		sums := []uint32{^sum, 0, 1<<32 - 1, sum + 1, sum - 1, sum<<8 | sum>>24, plainSum(whole), plainSum(ahead[4:]), plainSum(ahead[:len(ahead)-1]), plainSum(nil)}
		for bit := range 32 {
			sums = append(sums, sum^1<<bit)
		}
		for _, other := range sums {
			expectFault(t, "another sum", binary.LittleEndian.AppendUint32(bytes.Clone(ahead), other), api.ErrSum)
		}
		expectFault(t, "the sum with its highest byte first", binary.BigEndian.AppendUint32(bytes.Clone(ahead), sum), api.ErrSum)
		expectFault(t, "a byte behind the sum", append(bytes.Clone(whole), 0), api.ErrSum)
	}
}

// TestBeginningsOfStates: with the bytes that stand there for a sum, and with one that fits.
func TestBeginningsOfStates(t *testing.T) {
	for _, s := range smallStates() {
		whole := laidState(s)
		for cut := range whole {
			want := api.ErrSum
			if cut < 28 {
				want = api.ErrShort
			}
			expectFault(t, fmt.Sprint("cut at ", cut), whole[:cut:cut], want)
			expectFault(t, fmt.Sprint("cut at ", cut, ", the rest in the spare room"), whole[:cut], want)
		}
		for cut := range len(whole) - 4 {
			expectFault(t, fmt.Sprint("cut at ", cut, ", the sum right"), sealed(whole[:cut]), api.ErrShort)
		}
	}
}

// TestCountsAboveMaxKeys are told ahead of the keys, however many stand there.
func TestCountsAboveMaxKeys(t *testing.T) {
	for _, keys := range [][]api.Entry{nil, abc().Keys, manyKeys(full), manyKeys(full + 1)} {
		var row [][]byte
		for _, e := range keys {
			row = append(row, laidEntry(e))
		}
		for _, count := range []uint32{4097, 4098, 8192, 65535, 65536, 65537, 65536 + 3, 1 << 24, 1<<24 + 3, 1 << 31, 1<<31 + 3, 1<<32 - 1} {
			expectFault(t, fmt.Sprint(len(row), " keys, a count of ", count), sealed(laid(1, 1, count, row...)), api.ErrForm)
		}
	}
}

func TestOtherCountsThanKeys(t *testing.T) {
	for _, s := range []api.State{{}, abc(), allKeys(), stateOf(1, 1, manyKeys(300)...)} {
		var keys [][]byte
		for _, e := range s.Keys {
			keys = append(keys, laidEntry(e))
		}
		for count := range uint32(len(keys)) {
			expectFault(t, "a count that is too small", sealed(laid(s.Lsn, s.Floor, count, keys...)), api.ErrForm)
		}
		for _, more := range []int{1, 2, 5, 256, 3000} {
			expectFault(t, "a count that is too great", sealed(laid(s.Lsn, s.Floor, uint32(len(keys)+more), keys...)), api.ErrShort)
		}
		expectFault(t, "a count of MaxKeys", sealed(laid(s.Lsn, s.Floor, full, keys...)), api.ErrShort)
	}
}

// TestKeysThatEndEarly: the first, a middle and the last one, within each of its parts and between them.
func TestKeysThatEndEarly(t *testing.T) {
	rows := []struct {
		what  string
		key   []byte
		sizes []int
	}{
		{"a Flow", laidEntry(entry("key", flow(10, 20), tat(30))), []int{2, 3, 1, 8, 8, 8}},
		{"a Grid", laidEntry(entry("key", grid(10, 20), used(30, 40))), []int{2, 3, 1, 8, 8, 8, 8}},
		{"a key of one byte", laidEntry(entry("k", grid(10, 20), used(30, 40))), []int{2, 1, 1, 8, 8, 8, 8}},
		{"a key of 64 bytes", laidEntry(entry(strings.Repeat("k", 64), flow(10, 20), tat(30))), []int{2, 64, 1, 8, 8, 8}},
	}
	ahead := [][]byte{laidEntry(entry("a", flow(1, 0), tat(1))), laidEntry(entry("b", grid(0, 1), used(1, 1)))}
	for _, row := range rows {
		begin := 0
		for part, size := range row.sizes {
			for cut := begin; cut < begin+size; cut++ {
				what := fmt.Sprint(row.what, " that ends within its part ", part, ", behind ", cut, " bytes")
				for before := range 3 {
					keys := append(append([][]byte{}, ahead[:before]...), row.key[:cut])
					for count := before + 1; count < 6; count++ {
						expectFault(t, what, sealed(laid(1, 1, uint32(count), keys...)), api.ErrShort)
					}
				}
			}
			begin += size
		}
		if begin != len(row.key) {
			t.Errorf("the parts of %s have %d bytes, want %d", row.what, begin, len(row.key))
		}
	}
}

// TestOtherLengthsOfKeys: the length in the bytes is another one, and what is behind it is read by that length.
func TestOtherLengthsOfKeys(t *testing.T) {
	for _, s := range []api.State{abc(), stateOf(1, 1, entry("key", flow(1<<8, 1<<16), tat(1))), stateOf(1, 1, entry("key", grid(1, 2), used(1, 2)))} {
		b := laidState(s)
		for length := range 400 {
			binary.LittleEndian.PutUint16(b[24:], uint16(length))
			expectBytes(t, "another length of a key", resealed(b))
		}
		for _, length := range []uint16{1 << 8, 1 << 9, 1 << 15, 65535} {
			binary.LittleEndian.PutUint16(b[24:], length)
			expectFault(t, "a length far beyond the bytes", resealed(b), api.ErrShort)
		}
	}
}

// TestOtherKinds: a policy's kind that is none is told as soon as its byte is read, however much is behind it.
func TestOtherKinds(t *testing.T) {
	first := laidEntry(entry("a", flow(1, 0), tat(1)))
	for kind := range 256 {
		for _, text := range []string{"b", strings.Repeat("b", 64), "", strings.Repeat("b", 65)} {
			for numbers := range 6 {
				key := laidKey(text, byte(kind), make([]uint64, numbers)...)
				if kind == 1 || kind == 2 {
					if numbers < 2+kind {
						expectFault(t, "a kind whose numbers are missing", sealed(laid(1, 1, 1, key)), api.ErrShort)
					}
					continue
				}
				expectFault(t, "another kind", sealed(laid(1, 1, 1, key)), api.ErrForm)
				expectFault(t, "another kind, with a byte behind it", sealed(append(laid(1, 1, 1, key), 7)), api.ErrForm)
				expectFault(t, "another kind, of the second key", sealed(laid(1, 1, 2, first, key)), api.ErrForm)
				expectFault(t, "another kind, of the first key", sealed(laid(1, 1, 2, key, first)), api.ErrForm)
				expectFault(t, "another kind, more keys to come", sealed(laid(1, 1, 9, first, key)), api.ErrForm)
			}
			cut := laid(1, 1, 1, laidKey(text, byte(kind)))
			expectFault(t, "a kind that is missing", sealed(cut[:len(cut)-1]), api.ErrShort)
		}
	}
}

func TestBytesLeftAheadOfTheSum(t *testing.T) {
	for _, s := range smallStates() {
		whole := laidState(s)
		ahead := whole[:len(whole)-4]
		for x := range 256 {
			expectFault(t, "a byte left", sealed(append(bytes.Clone(ahead), byte(x))), api.ErrForm)
		}
		for _, more := range []int{2, 3, 4, 5, 27, 28, 100, 66000} {
			expectFault(t, fmt.Sprint(more, " bytes left"), sealed(append(bytes.Clone(ahead), make([]byte, more)...)), api.ErrForm)
		}
		expectFault(t, "a key left", sealed(append(bytes.Clone(ahead), laidEntry(entry("~", flow(1, 0), tat(1)))...)), api.ErrForm)
		expectFault(t, "the state twice", sealed(append(bytes.Clone(whole), whole...)), api.ErrForm)
		expectFault(t, "the sum twice", sealed(whole), api.ErrForm)
	}
}

// TestManyBytes: far more than any state has.
func TestManyBytes(t *testing.T) {
	long := make([]byte, 1<<22)
	expectFault(t, "many bytes", long, api.ErrForm)
	copy(long, "TI01")
	expectFault(t, "many bytes behind the mark", long, api.ErrSum)
	expectFault(t, "many bytes left", resealed(long), api.ErrForm)
	var keys [][]byte
	for i := range 60 {
		keys = append(keys, laidKey(strings.Repeat(string(rune('A'+i)), 65535), 1, 1, 1, 1))
	}
	expectFault(t, "keys as long as texts go", sealed(laid(1, 1, 60, keys...)), api.ErrForm)
	expectFault(t, "keys as long as texts go, one missing", sealed(laid(1, 1, 61, keys...)), api.ErrShort)
}
