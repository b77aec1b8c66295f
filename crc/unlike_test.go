package crc_test

import (
	"bytes"
	"math/rand"
	"testing"

	"turnstile/crc"
)

// starts: lists of unlike kinds, at whose places bytes are turned.
func starts(r *rand.Rand) [][]byte {
	return [][]byte{
		{0},
		{0xff, 0xff},
		[]byte("abc"),
		make([]byte, 4),
		[]byte("123456789"),
		bytes.Repeat([]byte{0xff}, 33),
		randomBytes(r, 70),
		randomBytes(r, 512),
	}
}

// turned is b with the bytes of difference put to those from place on, by xor.
func turned(b []byte, place int, difference ...byte) []byte {
	out := bytes.Clone(b)
	for i, d := range difference {
		out[place+i] ^= d
	}
	return out
}

func TestOneByteTurned(t *testing.T) {
	for _, b := range starts(rand.New(rand.NewSource(11))) {
		for place := range b {
			met := map[uint32]byte{crc.Sum(b): 0}
			for d := 1; d < 256; d++ {
				sum := crc.Sum(turned(b, place, byte(d)))
				if other, again := met[sum]; again {
					t.Fatalf("P2.3: %d bytes, byte %d turned by %02x and by %02x: both %08x", len(b), place, d, other, sum)
				}
				met[sum] = byte(d)
			}
		}
	}
}

// windows: the places at which four bytes are turned in a list of so many bytes: the ends, and some between.
func windows(length int) []int {
	last := length - 4
	return []int{0, last / 3, last / 2, last}
}

func TestFourBytesTurned(t *testing.T) {
	random := rand.New(rand.NewSource(12))
	for _, b := range starts(random) {
		if len(b) < 4 {
			continue
		}
		for _, place := range windows(len(b)) {
			met := map[uint32][4]byte{crc.Sum(b): {}}
			for range 5000 {
				d := [4]byte(randomBytes(random, 4))
				sum := crc.Sum(turned(b, place, d[:]...))
				if other, again := met[sum]; again && other != d {
					t.Fatalf("P2.3: %d bytes, from byte %d on turned by %x and by %x: both %08x", len(b), place, d, other, sum)
				}
				met[sum] = d
			}
		}
	}
}

// TestNeighboursTurned turns each single bit, and each two bits, of four bytes side by side.
func TestNeighboursTurned(t *testing.T) {
	for _, b := range starts(rand.New(rand.NewSource(13))) {
		for place := 0; place+4 <= len(b); place += 7 {
			met := map[uint32]bool{}
			for one := range 32 {
				for other := range one + 1 {
					var d [4]byte
					d[one/8] ^= 1 << (one % 8)
					d[other/8] |= 1 << (other % 8)
					sum := crc.Sum(turned(b, place, d[:]...))
					if met[sum] || sum == crc.Sum(b) {
						t.Fatalf("P2.3: %d bytes, from byte %d on turned by %x: %08x was met before", len(b), place, d, sum)
					}
					met[sum] = true
				}
			}
		}
	}
}

// TestNoTurnIsLost covers all the turns of four bytes: each is an xor of single bits, and so is what it makes of the sum;
// unlike turns make unlike sums if no bit's share is the xor of other bits' shares.
func TestNoTurnIsLost(t *testing.T) {
	for _, b := range starts(rand.New(rand.NewSource(14))) {
		if len(b) < 4 {
			continue
		}
		for _, place := range windows(len(b)) {
			var byHighest [33]uint32
			for bit := range 32 {
				var d [4]byte
				d[bit/8] = 1 << (bit % 8)
				share := crc.Sum(turned(b, place, d[:]...)) ^ crc.Sum(b)
				if !keepShare(&byHighest, share) {
					t.Fatalf("P2.3: %d bytes, from byte %d on: bit %d does what other bits do", len(b), place, bit)
				}
			}
		}
	}
}

// keepShare answers false if share is the xor of shares that were kept.
func keepShare(byHighest *[33]uint32, share uint32) bool {
	for bit := 31; bit >= 0; bit-- {
		if share>>bit&1 == 0 {
			continue
		}
		if byHighest[bit] == 0 {
			byHighest[bit] = share
			return true
		}
		share ^= byHighest[bit]
	}
	return false
}
