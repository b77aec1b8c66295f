package record_test

import (
	"bytes"
	"strings"
	"sync"
	"testing"

	"turnstile/record"
)

// withRoom is b with so many spare bytes behind it, filled with a mark.
func withRoom(b []byte, spare int) []byte {
	out := append(bytes.Clone(b), bytes.Repeat([]byte{0x5a}, spare)...)
	return out[:len(b):len(out)]
}

// scribble writes over all of b, its spare room too.
func scribble(b []byte) {
	b = b[:cap(b)]
	for i := range b {
		b[i] ^= 0xa5
	}
}

// TestBytesHandedInStayAsTheyWere: whatever Decode answers, and wherever a fault ends it.
func TestBytesHandedInStayAsTheyWere(t *testing.T) {
	for _, whole := range sampleBytes() {
		for cut := range len(whole) + 1 {
			for _, kind := range []byte{0, whole[0], 4} {
				b := withRoom(whole[:cut], 120)
				if cut > 0 {
					b[0] = kind
				}
				ahead := bytes.Clone(b[:cap(b)])
				record.Decode(b)
				if !bytes.Equal(b[:cap(b)], ahead) {
					t.Fatalf("P11.4: Decode has written into %x", ahead)
				}
			}
		}
		b := withRoom(append(bytes.Clone(whole), 1), 120)
		ahead := bytes.Clone(b[:cap(b)])
		record.Decode(b)
		if !bytes.Equal(b[:cap(b)], ahead) {
			t.Fatalf("P11.4: Decode has written into %x", ahead)
		}
	}
}

// TestBytesHandedInAreNotKept: what is written over them behind the call isn't seen in the record.
func TestBytesHandedInAreNotKept(t *testing.T) {
	for _, want := range samples() {
		whole, _ := plainEncode(want)
		b := withRoom(whole, 120)
		first, _ := record.Decode(b)
		second, _ := record.Decode(b)
		scribble(b)
		if first != want || second != want {
			t.Errorf("P11.4: behind what was written over the bytes the record is %s, want %s", tell(first), tell(want))
		}
		if again, err := record.Decode(whole); again != want || err != nil {
			t.Errorf("P11.4: Decode(%x) is %s, %v behind another call", whole, tell(again), err)
		}
	}
}

// TestBytesAnsweredAreNewMemory: they may be written over and grown, and no other answer changes.
func TestBytesAnsweredAreNewMemory(t *testing.T) {
	for _, r := range samples() {
		handed := r
		handed.Key = strings.Clone(r.Key)
		want, _ := plainEncode(r)
		first, _ := record.Encode(handed)
		second, _ := record.Encode(handed)
		_ = append(first, bytes.Repeat([]byte{0x77}, 50)...)
		scribble(first)
		if !bytes.Equal(second, want) {
			t.Errorf("P11.4: two answers to Encode(%s) share memory", tell(r))
		}
		scribble(second)
		if handed != r {
			t.Errorf("P11.4: what was handed in is %s, was %s", tell(handed), tell(r))
		}
		if again, err := record.Encode(handed); !bytes.Equal(again, want) || err != nil {
			t.Errorf("P11.4: Encode(%s) is %x, %v behind what was written over its other answers", tell(r), again, err)
		}
	}
}

// TestRecordsOutliveTheirBytes: a record that was decoded from an answer of Encode stays when that is written over, and the other way round.
func TestRecordsOutliveTheirBytes(t *testing.T) {
	for _, want := range samples() {
		b, _ := record.Encode(want)
		r, _ := record.Decode(b)
		again, _ := record.Encode(r)
		scribble(b)
		if plain, _ := plainEncode(want); r != want || !bytes.Equal(again, plain) {
			t.Errorf("P11.4: behind what was written over the bytes the record is %s, and its bytes %x", tell(r), again)
		}
	}
}

// TestCallsSideBySide: were something kept from call to call, several goroutines would meet in it.
func TestCallsSideBySide(t *testing.T) {
	list := samples()
	var workers sync.WaitGroup
	wrong := make([]int, 8)
	for worker := range wrong {
		workers.Go(func() {
			for round := range 2000 {
				want := list[(round+worker*5)%len(list)]
				b, err := record.Encode(want)
				_, none := record.Decode(b[:len(b)-1])
				r, fault := record.Decode(b)
				if err != nil || none == nil || fault != nil || r != want || !record.Valid(r) {
					wrong[worker]++
				}
			}
		})
	}
	workers.Wait()
	for worker, count := range wrong {
		if count > 0 {
			t.Errorf("P11.4: worker %d had %d wrong answers beside the others", worker, count)
		}
	}
}
