package crc_test

import (
	"bytes"
	"fmt"
	"math/rand"
	"sync"
	"testing"

	"turnstile/crc"
)

// withRoom is b with so much spare room behind it, the room filled with a mark.
func withRoom(b []byte, room int) []byte {
	out := append(bytes.Clone(b), bytes.Repeat([]byte{0x5a}, room)...)
	return out[:len(b)]
}

func TestHandedInStaysAsItWas(t *testing.T) {
	random := rand.New(rand.NewSource(15))
	for _, length := range []int{0, 1, 2, 7, 64, 512} {
		for _, room := range []int{0, 1, 4, 600} {
			first, second := withRoom(randomBytes(random, length), room), withRoom([]byte("second"), room)
			all := first[:cap(first)]
			ahead, aheadSecond := bytes.Clone(all), bytes.Clone(second[:cap(second)])
			at := fmt.Sprintf("P2.4: %d bytes with %d spare", length, room)

			want := plainSum(first)
			if have := crc.Sum(first); have != want {
				t.Errorf("%s: Sum is %08x, want %08x", at, have, want)
			}
			if have := crc.Add(7, first); have != plainAdd(7, first) {
				t.Errorf("%s: Add is %08x, want %08x", at, have, plainAdd(7, first))
			}
			pieces := withSparePiece(first, second)
			if have := crc.SumOf(pieces...); have != plainAdd(want, second) {
				t.Errorf("%s: SumOf is %08x, want %08x", at, have, plainAdd(want, second))
			}
			if !bytes.Equal(all, ahead) || !bytes.Equal(second[:cap(second)], aheadSecond) {
				t.Errorf("%s: the bytes were written", at)
			}
			expectPiecesAsTheyWere(t, at, pieces, first, second)
		}
	}
}

// withSparePiece is a list of two pieces, in whose spare room stands a third one.
func withSparePiece(first, second []byte) [][]byte {
	return [][]byte{first, second, []byte("spare")}[:2]
}

func expectPiecesAsTheyWere(t *testing.T, at string, pieces [][]byte, first, second []byte) {
	t.Helper()
	for i, want := range [][]byte{first, second, []byte("spare")} {
		piece := pieces[:3][i]
		if !bytes.Equal(piece, want) {
			t.Errorf("%s: piece %d of the list is another one: %x, want %x", at, i, piece, want)
		}
	}
}

// calls are some calls with the answers that each must give whatever was called ahead of it.
func calls() []func() bool {
	return []func() bool{
		func() bool { return crc.Sum([]byte("abc")) == 0x364b3fb7 },
		func() bool { return crc.Sum(nil) == 0 },
		func() bool { return crc.Add(0x364b3fb7, []byte("de")) == 0xc450d697 },
		func() bool { return crc.Add(9, nil) == 9 },
		func() bool { return crc.Join(0x364b3fb7, 0x6b40b476, 2) == 0xc450d697 },
		func() bool { return crc.Join(1, 0, 1) == 0xf26b8303 },
		func() bool { return crc.Join(0, 6, 1000) == 6 },
		func() bool { return crc.SumOf([]byte("ab"), nil, []byte("c")) == 0x364b3fb7 },
		func() bool { return crc.SumOf() == 0 },
	}
}

func TestNothingIsKept(t *testing.T) {
	list := calls()
	for i, ahead := range list {
		for k, call := range list {
			ahead()
			if !call() || !call() {
				t.Errorf("P2.4: call %d has another answer behind call %d", k, i)
			}
		}
	}
}

// TestCallsSideBySide: were something kept, calls from several goroutines would meet in it.
func TestCallsSideBySide(t *testing.T) {
	var workers sync.WaitGroup
	wrong := make([]int, 8)
	for worker := range wrong {
		workers.Go(func() {
			for range 2000 {
				for _, call := range calls() {
					if !call() {
						wrong[worker]++
					}
				}
			}
		})
	}
	workers.Wait()
	for worker, count := range wrong {
		if count > 0 {
			t.Errorf("P2.4: worker %d had %d wrong answers beside the others", worker, count)
		}
	}
}

// TestBytesThatChange: the sum is of the bytes as they are at the call, not as they were at an earlier one.
func TestBytesThatChange(t *testing.T) {
	b := []byte("abc")
	for round := range 300 {
		b[round%3] += byte(round)
		if crc.Sum(b) != plainSum(b) || crc.SumOf(b, b) != plainSum(append(bytes.Clone(b), b...)) {
			t.Fatalf("P2.4: %x is summed as it was before", b)
		}
	}
}
