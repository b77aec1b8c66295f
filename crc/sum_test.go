package crc_test

import (
	"bytes"
	"fmt"
	"hash/crc32"
	"math"
	"math/rand"
	"testing"
	"time"

	"turnstile/crc"
)

// steps does so many steps of x, as the chapter says them.
func steps(x uint32, count int) uint32 {
	for range count {
		out := x & 1
		x >>= 1
		if out == 1 {
			x ^= 0x82f63b78
		}
	}
	return x
}

// plainAdd reads the chapter plainly: every bit a step of its own.
func plainAdd(sum uint32, b []byte) uint32 {
	x := sum ^ 0xffffffff
	for _, c := range b {
		x = steps(x^uint32(c), 8)
	}
	return x ^ 0xffffffff
}

func plainSum(b []byte) uint32 { return plainAdd(0, b) }

// plainJoin is for lengths that a loop can go through.
func plainJoin(first, second uint32, length int) uint32 {
	return steps(first, 8*max(length, 0)) ^ second
}

// linear is what many steps make of each single bit; of another number they make the xor of what they make of its bits.
type linear [32]uint32

func (m linear) of(x uint32) uint32 {
	var out uint32
	for bit, made := range m {
		if x>>bit&1 == 1 {
			out ^= made
		}
	}
	return out
}

func linearSteps(count int) linear {
	var m linear
	for bit := range m {
		m[bit] = steps(1<<bit, count)
	}
	return m
}

// longJoin is Join for any length from 1 on, by doubling how many steps are known in place of going through them.
func longJoin(first, second uint32, length int) uint32 {
	m := linearSteps(8)
	for rest := length; rest > 0; rest /= 2 {
		if rest%2 == 1 {
			first = m.of(first)
		}
		var twice linear
		for bit, made := range m {
			twice[bit] = m.of(made)
		}
		m = twice
	}
	return first ^ second
}

// quick ends the test if f has not ended behind a time that no call of this package needs.
func quick(t *testing.T, at string, f func()) {
	t.Helper()
	ended := make(chan struct{})
	go func() {
		defer close(ended)
		f()
	}()
	select {
	case <-ended:
	case <-time.After(20 * time.Second):
		t.Fatalf("P2.1: %s has not ended", at)
	}
}

func randomBytes(r *rand.Rand, length int) []byte {
	b := make([]byte, length)
	r.Read(b)
	return b
}

// edgeNumbers: no bit, all bits, single bits and their neighbours, numbers that alternate, and the polynomial.
func edgeNumbers() []uint32 {
	list := []uint32{0, math.MaxUint32, 0x55555555, 0xaaaaaaaa, 0x82f63b78, 0x01234567, 0xfedcba98}
	for bit := range 32 {
		list = append(list, 1<<bit, 1<<bit-1, ^uint32(1<<bit))
	}
	return list
}

func TestSumExamples(t *testing.T) {
	rising := make([]byte, 32)
	for i := range rising {
		rising[i] = byte(i)
	}
	rows := []struct {
		b    []byte
		want uint32
	}{
		{nil, 0},
		{[]byte{}, 0},
		{[]byte("a"), 0xc1d04330},
		{[]byte("abc"), 0x364b3fb7},
		{[]byte("de"), 0x6b40b476},
		{[]byte("abcde"), 0xc450d697},
		{[]byte("123456789"), 0xe3069283},
		{make([]byte, 1), 0x527d5351},
		{make([]byte, 4), 0x48674bc7},
		{make([]byte, 32), 0x8a9136aa},
		{bytes.Repeat([]byte{0xff}, 32), 0x62a8ab43},
		{rising, 0x46dd794e},
	}
	for _, row := range rows {
		if have := crc.Sum(row.b); have != row.want {
			t.Errorf("P2.1: Sum(%x) is %08x, want %08x", row.b, have, row.want)
		}
	}
}

func TestSumAsThePlainReading(t *testing.T) {
	random := rand.New(rand.NewSource(1))
	var list [][]byte
	for first := range 256 {
		list = append(list, []byte{byte(first)})
		for second := range 256 {
			list = append(list, []byte{byte(first), byte(second)})
		}
	}
	for length := range 1100 {
		list = append(list, randomBytes(random, length), bytes.Repeat([]byte{byte(length)}, length))
	}
	for _, b := range list {
		if have, want := crc.Sum(b), plainSum(b); have != want {
			t.Fatalf("P2.1: Sum of %d bytes, %.20x, is %08x, want %08x", len(b), b, have, want)
		}
	}
}

// TestSumOfManyBytes asks the library, since the plain reading would be slow.
func TestSumOfManyBytes(t *testing.T) {
	random := rand.New(rand.NewSource(2))
	library := crc32.MakeTable(crc32.Castagnoli)
	for _, length := range []int{4096, 65535, 65536, 65537, 1<<20 + 3} {
		b := randomBytes(random, length)
		if have, want := crc.Sum(b), crc32.Checksum(b, library); have != want {
			t.Errorf("P2.1: Sum of %d bytes is %08x, want %08x", length, have, want)
		}
	}
}

func TestAddExamples(t *testing.T) {
	if have := crc.Add(0, []byte("abc")); have != 0x364b3fb7 {
		t.Errorf("P2.1: Add(0, abc) is %08x", have)
	}
	if have := crc.Add(0x364b3fb7, []byte("de")); have != 0xc450d697 {
		t.Errorf("P2.1: Add(364b3fb7, de) is %08x", have)
	}
}

func TestAddOntoAnyNumber(t *testing.T) {
	random := rand.New(rand.NewSource(3))
	sums := edgeNumbers()
	for range 500 {
		sums = append(sums, random.Uint32())
	}
	pieces := [][]byte{nil, {}, {0}, {0xff}, []byte("abc"), make([]byte, 40), randomBytes(random, 100)}
	for _, sum := range sums {
		for _, b := range pieces {
			if have, want := crc.Add(sum, b), plainAdd(sum, b); have != want {
				t.Fatalf("P2.1: Add(%08x, %x) is %08x, want %08x", sum, b, have, want)
			}
		}
		if crc.Add(sum, nil) != sum || crc.Add(sum, []byte{}) != sum {
			t.Fatalf("P2.1: Add(%08x) of no bytes is %08x, %08x", sum, crc.Add(sum, nil), crc.Add(sum, []byte{}))
		}
	}
}

func TestJoinExamples(t *testing.T) {
	rows := []struct {
		first, second uint32
		length        int
		want          uint32
	}{
		{0x364b3fb7, 0x6b40b476, 2, 0xc450d697},
		{1, 0, 1, 0xf26b8303},
		{0x80000000, 0, 1, 0x00800000},
		{5, 6, 0, 3},
		{5, 6, -7, 3},
		{5, 6, -1, 3},
		{5, 6, math.MinInt, 3},
		{5, 6, math.MinInt + 1, 3},
		{0, 6, math.MaxInt, 6},
		{0, 0, 1, 0},
	}
	for _, row := range rows {
		at := fmt.Sprintf("Join(%08x, %08x, %d)", row.first, row.second, row.length)
		quick(t, at, func() {
			if have := crc.Join(row.first, row.second, row.length); have != row.want {
				t.Errorf("P2.1: %s is %08x, want %08x", at, have, row.want)
			}
		})
	}
}

func TestJoinAsThePlainReading(t *testing.T) {
	random := rand.New(rand.NewSource(4))
	numbers := edgeNumbers()
	for length := range 300 {
		for range 20 {
			numbers[0] = random.Uint32()
			first, second := numbers[random.Intn(len(numbers))], numbers[random.Intn(len(numbers))]
			if have, want := crc.Join(first, second, length), plainJoin(first, second, length); have != want {
				t.Fatalf("P2.1: Join(%08x, %08x, %d) is %08x, want %08x", first, second, length, have, want)
			}
		}
	}
	for _, first := range numbers {
		for _, length := range []int{0, 1, 2, 3, 4, 5, 512, 4097} {
			if have, want := crc.Join(first, 0, length), plainJoin(first, 0, length); have != want {
				t.Fatalf("P2.1: Join(%08x, 0, %d) is %08x, want %08x", first, length, have, want)
			}
		}
	}
}

// edgeLengths: around every power of two, so that also those stand there whose eightfold is beyond an int.
func edgeLengths() []int {
	list := []int{math.MaxInt, math.MaxInt - 1, math.MaxInt / 3}
	for bit := range 63 {
		list = append(list, 1<<bit, 1<<bit-1, 1<<bit+1)
	}
	return list
}

func TestJoinOfAnyLength(t *testing.T) {
	random := rand.New(rand.NewSource(5))
	quick(t, "Join of great lengths", func() {
		for _, length := range edgeLengths() {
			for _, first := range []uint32{1, math.MaxUint32, random.Uint32()} {
				second := random.Uint32()
				if have, want := crc.Join(first, second, length), longJoin(first, second, length); have != want {
					t.Errorf("P2.1: Join(%08x, %08x, %d) is %08x, want %08x", first, second, length, have, want)
				}
			}
		}
	})
}

func TestJoinWithoutLength(t *testing.T) {
	random := rand.New(rand.NewSource(6))
	quick(t, "Join of lengths below 1", func() {
		for _, length := range append(edgeLengths(), 0) {
			first, second := random.Uint32(), random.Uint32()
			if have := crc.Join(first, second, -length); have != first^second {
				t.Errorf("P2.1: Join(%08x, %08x, %d) is %08x, want %08x", first, second, -length, have, first^second)
			}
		}
	})
}

func TestSumOfEdges(t *testing.T) {
	rows := []struct {
		name string
		have uint32
		want uint32
	}{
		{"no pieces", crc.SumOf(), 0},
		{"a nil list of pieces", crc.SumOf([][]byte(nil)...), 0},
		{"an empty list of pieces", crc.SumOf([][]byte{}...), 0},
		{"a nil piece", crc.SumOf(nil, nil), 0},
		{"pieces of no bytes", crc.SumOf([]byte{}, nil, []byte{}), 0},
		{"ab, nothing, c", crc.SumOf([]byte("ab"), nil, []byte("c")), 0x364b3fb7},
		{"ab, nothing, c, empty ones", crc.SumOf([]byte("ab"), []byte{}, []byte("c")), 0x364b3fb7},
		{"nothing ahead and behind", crc.SumOf(nil, []byte("abc"), []byte{}), 0x364b3fb7},
		{"one piece", crc.SumOf([]byte("abcde")), 0xc450d697},
		{"another order", crc.SumOf([]byte("c"), []byte("ab")), plainSum([]byte("cab"))},
	}
	for _, row := range rows {
		if row.have != row.want {
			t.Errorf("P2.1: SumOf %s is %08x, want %08x", row.name, row.have, row.want)
		}
	}
}
