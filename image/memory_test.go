package image_test

import (
	"bytes"
	"slices"
	"sync"
	"testing"

	"turnstile/api"
	"turnstile/image"
)

var spare = api.Entry{Key: "spare room", Policy: api.Policy{Kind: 77}, Level: api.Level{Count: 99}}

// withRoom is b with so many spare bytes behind it, filled with a mark.
func withRoom(b []byte, count int) []byte {
	out := append(bytes.Clone(b), bytes.Repeat([]byte{0x5a}, count)...)
	return out[:len(b):len(out)]
}

// scribble writes over all of b, its spare room too.
func scribble(b []byte) {
	b = b[:cap(b)]
	for i := range b {
		b[i] ^= 0xa5
	}
}

// withKeyRoom is s with spare room behind its keys, filled with a mark.
func withKeyRoom(s api.State, count int) api.State {
	keys := append(slices.Clone(s.Keys), slices.Repeat([]api.Entry{spare}, count)...)
	s.Keys = keys[:len(s.Keys):len(keys)]
	return s
}

// scribbleKeys writes over all keys of s, the spare room too.
func scribbleKeys(s api.State) {
	keys := s.Keys[:cap(s.Keys)]
	for i := range keys {
		keys[i] = api.Entry{Key: "scribble", Policy: api.Policy{Kind: -5}, Level: api.Level{Tat: 3}}
	}
}

// elsewhere is s in memory of its own.
func elsewhere(s api.State) api.State {
	s.Keys = slices.Clone(s.Keys)
	return s
}

// TestBytesHandedInStay: whatever Decode answers, and wherever a fault ends it.
func TestBytesHandedInStay(t *testing.T) {
	list := [][]byte{nil, make([]byte, 28), []byte("TI02")}
	for _, s := range []api.State{{}, abc(), allKeys(), ofKeys("b", "a"), ofKeys(""), stateOf(m, 0)} {
		whole := laidState(s)
		for cut := range len(whole) + 1 {
			list = append(list, whole[:cut])
			if cut >= 4 {
				list = append(list, resealed(whole[:cut]))
			}
		}
		list = append(list, sealed(whole))
	}
	list = append(list, laidState(widest()), sealed(laid(1, 1, 4097)), sealed(laid(1, 1, 1, laidKey("k", 3, 1, 1, 1))))
	for _, b := range list {
		for _, count := range []int{0, 1, 100} {
			handed := withRoom(b, count)
			ahead := bytes.Clone(handed[:cap(handed)])
			image.Decode(handed)
			if !bytes.Equal(handed[:cap(handed)], ahead) {
				t.Fatalf("P14.4: Decode has written into %s", tellBytes(ahead))
			}
		}
	}
}

// TestStatesHandedInStay: valid ones and others.
func TestStatesHandedInStay(t *testing.T) {
	for _, list := range [][]api.State{smallStates(), fullStates(), wrongStates()} {
		for _, s := range list {
			for _, count := range []int{0, 1, 9} {
				handed := withKeyRoom(s, count)
				ahead := slices.Clone(handed.Keys[:cap(handed.Keys)])
				image.Encode(handed)
				if !same(handed, s) || !slices.Equal(handed.Keys[:cap(handed.Keys)], ahead) {
					t.Fatalf("P14.4: Encode has written into %s", tell(s))
				}
			}
		}
	}
}

// TestBytesHandedInAreNotKept: what is written over them behind the call isn't seen in the state, nor in its keys' texts.
func TestBytesHandedInAreNotKept(t *testing.T) {
	for _, want := range append(smallStates(), fullStates()...) {
		whole := laidState(want)
		b := withRoom(whole, 120)
		first, _ := image.Decode(b)
		second, _ := image.Decode(b)
		scribble(b)
		if !same(first, want) || !same(second, want) {
			t.Errorf("P14.4: behind what was written over the bytes the states are %s and %s, want %s", tell(first), tell(second), tell(want))
		}
		if again, err := image.Decode(whole); !same(again, want) || err != nil {
			t.Errorf("P14.4: Decode(%s) is %s, %v behind another call", tellBytes(whole), tell(again), err)
		}
	}
}

// TestStatesHandedInAreNotKept: what is written over their keys behind the call isn't seen in the bytes.
func TestStatesHandedInAreNotKept(t *testing.T) {
	for _, s := range append(smallStates(), fullStates()...) {
		handed := withKeyRoom(s, 9)
		first, _ := image.Encode(handed)
		scribbleKeys(handed)
		if want := laidState(s); !bytes.Equal(first, want) {
			t.Errorf("P14.4: behind what was written over the keys the bytes are %s, want %s", tellBytes(first), tellBytes(want))
		}
	}
}

// TestBytesAnsweredAreNewMemory: they may be written over and grown, and nothing else changes.
func TestBytesAnsweredAreNewMemory(t *testing.T) {
	for _, s := range append(smallStates(), fullStates()...) {
		handed := withKeyRoom(s, 9)
		want := laidState(s)
		first, _ := image.Encode(handed)
		second, _ := image.Encode(handed)
		_ = append(first, bytes.Repeat([]byte{0x77}, 50)...)
		scribble(first)
		if !bytes.Equal(second, want) {
			t.Errorf("P14.4: two answers to Encode(%s) share memory", tell(s))
		}
		scribble(second)
		if !same(handed, s) {
			t.Errorf("P14.4: what was handed in is %s, was %s", tell(handed), tell(s))
		}
		if again, err := image.Encode(handed); !bytes.Equal(again, want) || err != nil {
			t.Errorf("P14.4: Encode(%s) is %s, %v behind what was written over its other answers", tell(s), tellBytes(again), err)
		}
	}
}

// TestStatesAnsweredAreNewMemory: their keys may be written over and grown, and nothing else changes.
func TestStatesAnsweredAreNewMemory(t *testing.T) {
	for _, want := range append(smallStates(), fullStates()...) {
		b := laidState(want)
		first, _ := image.Decode(b)
		second, _ := image.Decode(b)
		kept := elsewhere(second)
		_ = append(first.Keys, spare, spare)
		scribbleKeys(first)
		if !same(second, want) || !same(kept, want) {
			t.Errorf("P14.4: two answers to Decode(%s) share memory", tellBytes(b))
		}
		scribbleKeys(second)
		if !bytes.Equal(b, laidState(want)) {
			t.Errorf("P14.4: what is written over an answer is seen in the bytes of %s", tell(want))
		}
		if again, err := image.Decode(b); !same(again, want) || err != nil {
			t.Errorf("P14.4: Decode(%s) is %s, %v behind what was written over its other answers", tellBytes(b), tell(again), err)
		}
	}
}

// TestDecodeWithinAPanic: called while a caller's own panic runs, Decode answers as ever, and leaves that panic alone.
func TestDecodeWithinAPanic(t *testing.T) {
	whole := laidState(abc())
	for cut := range len(whole) + 1 {
		want, wantErr := plainDecode(whole[:cut])
		met := func() (met any) {
			defer func() { met = recover() }()
			defer func() {
				if s, err := image.Decode(whole[:cut]); !same(s, want) || err != wantErr {
					t.Errorf("P14.2: within a panic: Decode(%s) is %s, %v, want %s, %v", tellBytes(whole[:cut]), tell(s), err, tell(want), wantErr)
				}
			}()
			panic("the caller's own")
		}()
		if met != "the caller's own" {
			t.Errorf("P14.2: behind Decode(%s) the caller's panic is %v", tellBytes(whole[:cut]), met)
		}
	}
}

// TestCallsSideBySide: were something kept from call to call, several goroutines would meet in it.
func TestCallsSideBySide(t *testing.T) {
	list := smallStates()
	shared := abc()
	sharedBytes := laidState(shared)
	var workers sync.WaitGroup
	wrong := make([]int, 8)
	for worker := range wrong {
		workers.Go(func() {
			for round := range 2000 {
				want := list[(round+worker*5)%len(list)]
				b, err := image.Encode(want)
				_, none := image.Decode(b[:len(b)-1])
				s, fault := image.Decode(b)
				both, _ := image.Encode(shared)
				back, _ := image.Decode(sharedBytes)
				if err != nil || none == nil || fault != nil || !same(s, want) || !bytes.Equal(both, sharedBytes) || !same(back, shared) {
					wrong[worker]++
				}
				scribble(b)
				scribbleKeys(s)
			}
		})
	}
	workers.Wait()
	for worker, count := range wrong {
		if count > 0 {
			t.Errorf("P14.4: worker %d had %d wrong answers beside the others", worker, count)
		}
	}
}
