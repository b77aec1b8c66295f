package crc_test

import (
	"fmt"
	"math/rand"
	"testing"

	"turnstile/crc"
)

// expectPieces asks for the sum of the pieces, put together, by each of the four ways.
func expectPieces(t *testing.T, at string, pieces [][]byte) {
	t.Helper()
	var whole []byte
	added, joined := uint32(0), uint32(0)
	for _, piece := range pieces {
		whole = append(whole, piece...)
		added = crc.Add(added, piece)
		joined = crc.Join(joined, crc.Sum(piece), len(piece))
	}
	want := plainSum(whole)
	if sum := crc.Sum(whole); sum != want {
		t.Fatalf("P2.2: %s: Sum of the whole is %08x, want %08x", at, sum, want)
	}
	if added != want || joined != want {
		t.Fatalf("P2.2: %s: by Add %08x, by Join %08x, want %08x", at, added, joined, want)
	}
	if sum := crc.SumOf(pieces...); sum != want {
		t.Fatalf("P2.2: %s: SumOf is %08x, want %08x", at, sum, want)
	}
}

// cut cuts b at the places, which rise.
func cut(b []byte, places ...int) [][]byte {
	var pieces [][]byte
	from := 0
	for _, place := range places {
		pieces = append(pieces, b[from:place])
		from = place
	}
	return append(pieces, b[from:])
}

func TestCutAtEveryTwoPlaces(t *testing.T) {
	random := rand.New(rand.NewSource(7))
	for _, b := range [][]byte{nil, {0}, []byte("123456789"), make([]byte, 40), randomBytes(random, 60)} {
		for first := range len(b) + 1 {
			for second := first; second <= len(b); second++ {
				expectPieces(t, fmt.Sprintf("%x cut at %d and %d", b, first, second), cut(b, first, second))
			}
		}
	}
}

func TestCutInManyPieces(t *testing.T) {
	random := rand.New(rand.NewSource(8))
	for round := range 300 {
		b := randomBytes(random, random.Intn(1500))
		most := []int{2, 10, 600}[round%3]
		var places []int
		for place := random.Intn(most); place <= len(b); place += random.Intn(most) {
			places = append(places, place)
		}
		expectPieces(t, fmt.Sprintf("%d bytes cut at %v", len(b), places), cut(b, places...))
	}
}

func TestEveryByteAPiece(t *testing.T) {
	random := rand.New(rand.NewSource(9))
	for _, length := range []int{1, 2, 3, 511, 512, 513, 3000} {
		b := randomBytes(random, length)
		pieces := make([][]byte, length)
		for i := range b {
			pieces[i] = b[i : i+1]
		}
		expectPieces(t, fmt.Sprintf("%d single bytes", length), pieces)
	}
}

// TestJoinInAnyOrder joins the last pieces first: what is joined is itself a piece.
func TestJoinInAnyOrder(t *testing.T) {
	random := rand.New(rand.NewSource(10))
	for range 500 {
		b := randomBytes(random, random.Intn(900))
		first := random.Intn(len(b) + 1)
		second := first + random.Intn(len(b)-first+1)
		p := cut(b, first, second)
		behind := crc.Join(crc.Sum(p[1]), crc.Sum(p[2]), len(p[2]))
		joined := crc.Join(crc.Sum(p[0]), behind, len(p[1])+len(p[2]))
		if want := plainSum(b); joined != want {
			t.Fatalf("P2.2: %x cut at %d and %d, the last two joined first: %08x, want %08x", b, first, second, joined, want)
		}
	}
}
