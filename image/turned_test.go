package image_test

import (
	"bytes"
	"encoding/binary"
	"fmt"
	"math/rand"
	"strings"
	"testing"

	"turnstile/api"
	"turnstile/image"
)

// someImages are the bytes of states without keys, with one of either rule, and with several.
func someImages(t *testing.T) [][]byte {
	t.Helper()
	var list [][]byte
	for _, s := range []api.State{{}, stateOf(last, m), stateOf(7, 100, entry("k", flow(10, 30), tat(140))), stateOf(7, 100, entry("k", grid(3, 10), used(2, 1))),
		abc(), ofKeys("TI01", "TI01TI01"), allKeys()} {
		b, err := image.Encode(s)
		if err != nil {
			t.Fatalf("P14.1: Encode(%s) answers %v", tell(s), err)
		}
		list = append(list, b)
	}
	return list
}

// expectNone: of bytes of a state that were turned or cut Decode takes nothing.
func expectNone(t *testing.T, what string, b []byte, want error) {
	t.Helper()
	if s, err := image.Decode(b); !isNothing(s) || err != want {
		t.Fatalf("P14.3: %s: Decode(%s) is %s, %v, want %v", what, tellBytes(b), tell(s), err, want)
	}
}

// TestEveryByteTurned: each byte made every other one; the sum covers all but the first four, which come ahead of it.
func TestEveryByteTurned(t *testing.T) {
	for _, whole := range someImages(t) {
		for at := range whole {
			b := bytes.Clone(whole)
			for turn := 1; turn < 256; turn++ {
				b[at] = whole[at] ^ byte(turn)
				expectNone(t, fmt.Sprint("byte ", at, " turned"), b, turnedFault(at))
			}
		}
	}
}

func turnedFault(at int) error {
	if at < 4 {
		return api.ErrForm
	}
	return api.ErrSum
}

func TestBytesTurnedInFullStates(t *testing.T) {
	r := rand.New(rand.NewSource(142))
	for _, s := range fullStates() {
		whole, err := image.Encode(s)
		if err != nil {
			t.Fatalf("P14.1: Encode(%s) answers %v", tell(s), err)
		}
		places := []int{0, 3, 4, 11, 12, 20, 23, 24, len(whole) - 5, len(whole) - 4, len(whole) - 1}
		for range 100 {
			places = append(places, r.Intn(len(whole)))
		}
		for _, at := range places {
			turn := byte(1 + r.Intn(255))
			whole[at] ^= turn
			expectNone(t, fmt.Sprint("byte ", at, " turned"), whole, turnedFault(at))
			whole[at] ^= turn
		}
	}
}

// TestEveryByteTurnedUnderASumThatFits: then the bytes are another state's, or the fault is another one.
func TestEveryByteTurnedUnderASumThatFits(t *testing.T) {
	answers := map[error]int{}
	for _, whole := range someImages(t) {
		step := 1
		if len(whole) > 300 {
			step = 17 // still each half byte turned in every way
		}
		for at := range len(whole) - 4 {
			b := bytes.Clone(whole)
			for turn := 0; turn < 256; turn += step {
				b[at] = whole[at] ^ byte(turn)
				answers[expectBytes(t, fmt.Sprint("byte ", at, " turned"), resealed(b))]++
			}
		}
	}
	for _, err := range []error{nil, api.ErrShort, api.ErrForm} {
		if answers[err] < 1000 {
			t.Errorf("%d answers were %v: too few", answers[err], err)
		}
	}
}

func TestEveryCut(t *testing.T) {
	for _, whole := range someImages(t) {
		for cut := range whole {
			want := api.ErrSum
			if cut < 28 {
				want = api.ErrShort
			}
			expectNone(t, fmt.Sprint("cut at ", cut), whole[:cut], want)
		}
	}
}

// TestCutsWhereTheSumFits: a state may have bytes in it that happen to be the sum of all ahead of them. Cut behind these, the sum tells nothing, but the keys end early.
func TestCutsWhereTheSumFits(t *testing.T) {
	for _, count := range []int{1, 2} {
		for at := range 60 {
			key := []byte(strings.Repeat("k", 64))
			front := laid(7, 5, uint32(count), laidKey(string(key), 1)[:2+at])
			binary.LittleEndian.PutUint32(key[at:], plainSum(front))
			s := stateOf(7, 5, entry(string(key), grid(3, 10), used(2, 1)), entry(strings.Repeat("\xff", 64), flow(1, 1), tat(1)))
			s.Keys = s.Keys[:count]
			expectCut(t, s, len(front)+4)
		}
	}
	for number := range 4 {
		for _, shift := range []int{0, 32} {
			numbers := []uint64{1, 1, 1, 1}
			front := laid(7, 5, 1, laidKey("key", 2, numbers[:number]...))
			if shift == 32 {
				front = append(front, 1, 0, 0, 0)
			}
			numbers[number] += uint64(plainSum(front)) << shift
			if shift == 0 {
				numbers[number]--
			}
			expectCut(t, stateOf(7, 5, entry("key", grid(numbers[0], numbers[1]), used(numbers[2], numbers[3]))), len(front)+4)
		}
	}
}

// expectCut: cut here the bytes of s have a sum that fits, and nothing is taken of them.
func expectCut(t *testing.T, s api.State, cut int) {
	t.Helper()
	whole, err := image.Encode(s)
	if err != nil || len(whole) <= cut || !bytes.Equal(whole[:cut], resealed(whole[:cut])) {
		t.Fatalf("P14.3: Encode(%s) is %s, %v: the bytes ahead of %d have another sum", tell(s), tellBytes(whole), err, cut)
	}
	expectNone(t, fmt.Sprint("cut at ", cut, ", where the sum fits"), whole[:cut], api.ErrShort)
}
