package snap_test

import (
	"slices"
	"sync"
	"testing"

	"turnstile/api"
	"turnstile/disk"
	"turnstile/snap"
)

// withRoom is s with spare room behind its keys, filled with a mark.
func withRoom(s api.State, count int) api.State {
	spare := api.Entry{Key: "spare room", Policy: api.Policy{Kind: 77}, Level: api.Level{Count: 99}}
	keys := append(slices.Clone(s.Keys), slices.Repeat([]api.Entry{spare}, count)...)
	s.Keys = keys[:len(s.Keys):len(keys)]
	return s
}

// scribble writes over all keys of s, the spare room too.
func scribble(s api.State) {
	keys := s.Keys[:cap(s.Keys)]
	for i := range keys {
		keys[i] = api.Entry{Key: "scribble", Policy: api.Policy{Kind: -5}, Level: api.Level{Tat: 3}}
	}
}

// TestStatesHandedInStay: whether Write goes, is refused, fails or has the power lost in it; what is written over them behind the call isn't seen on the disk.
func TestStatesHandedInStay(t *testing.T) {
	for _, s := range append(allStates(), wrongStates()...) {
		for number := range 8 {
			for _, fails := range [][]api.Fail{nil, {{At: number, Part: 40}}} {
				handed := withRoom(s, 3)
				ahead := slices.Clone(handed.Keys[:cap(handed.Keys)])
				d := loaded(t, api.File{Name: "temp"})
				if fails == nil {
					d.Arm(nil, number)
				} else {
					d.Arm(fails, 0)
				}
				snap.Write(d, handed)
				if !same(handed, s) || !slices.Equal(handed.Keys[:cap(handed.Keys)], ahead) {
					t.Fatalf("Rule 3: Write has written into %s", tell(s))
				}
				kept := d.Crash(fates(9, slices.Repeat([]int{1}, 900)...))
				scribble(handed)
				if !sameImage(d.Crash(fates(9, slices.Repeat([]int{1}, 900)...)), kept) {
					t.Fatalf("Rule 3: Write has kept %s", tell(s))
				}
			}
		}
	}
}

// TestDisksHaveNothingInCommon: calls on the one by turns with calls on the other.
func TestDisksHaveNothingInCommon(t *testing.T) {
	a, b := disk.New(), disk.New()
	for round := range uint64(20) {
		expectErr(t, "P15.2: Write", snap.Write(a, at(2*round)), nil)
		expectErr(t, "P15.2: Write", snap.Write(b, at(2*round+1)), nil)
		expectNewest(t, "one of two disks", a, at(2*round))
		expectNewest(t, "the other one", b, at(2*round+1))
		expectErr(t, "P15.4: Clean", snap.Clean(a, round), nil)
	}
	if names, _ := b.Names(); len(names) != 20 {
		t.Errorf("Rule 4: the other disk has the files %q", names)
	}
}

// TestStatesAnsweredAreNewMemory: their keys may be written over and grown, and nothing else changes: neither the disk, nor another answer, nor what was handed to Write.
func TestStatesAnsweredAreNewMemory(t *testing.T) {
	for _, want := range allStates() {
		d := disk.New()
		handed := withRoom(want, 2)
		expectErr(t, "P15.2: Write", snap.Write(d, handed), nil)
		ahead := d.Seen()
		first, _ := snap.Newest(d)
		second, _ := snap.Newest(d)
		_ = append(first.Keys, api.Entry{Key: "more"}, api.Entry{Key: "more"})
		scribble(first)
		if !same(second, want) {
			t.Errorf("Rule 3: two answers of Newest share memory: %s, want %s", tell(second), tell(want))
		}
		scribble(second)
		if !sameImage(d.Seen(), ahead) || !same(handed, want) {
			t.Errorf("Rule 3: what is written over an answer is seen on the disk, or in what was handed in")
		}
		expectNewest(t, "behind what was written over answers", d, want)
	}
}

// TestAnAnswerOutlastsTheDisk: what is done to the disk later isn't seen in a state that was answered.
func TestAnAnswerOutlastsTheDisk(t *testing.T) {
	for _, want := range smallStates() {
		d := loaded(t, fileOf(t, want))
		found, err := snap.Newest(d)
		expectErr(t, "P15.3: Newest", err, nil)
		expectErr(t, "operations", play(d, truncate(plainName(want.Lsn), 0), put(plainName(want.Lsn), slices.Repeat([]byte{0xff}, 2000)), syncOf(plainName(want.Lsn))), nil)
		expectErr(t, "P15.2: Write", snap.Write(d, other(want)), nil)
		expectErr(t, "P15.4: Clean", snap.Clean(d, m), nil)
		if !same(found, want) {
			t.Errorf("Rule 3: a state that was answered is %s now, was %s", tell(found), tell(want))
		}
	}
}

// TestAnAnswerHandedOn: what Newest answers may be handed to Write.
func TestAnAnswerHandedOn(t *testing.T) {
	for _, s := range smallStates() {
		from, to := loaded(t, fileOf(t, s)), disk.New()
		found, _ := snap.Newest(from)
		expectErr(t, "P15.2: Write of what Newest answers", snap.Write(to, found), nil)
		expectErr(t, "P15.2: Write of what Newest answers", snap.Write(from, found), nil)
		scribble(found)
		expectNewest(t, "what was handed on", to, s)
		expectNewest(t, "what was handed back", from, s)
	}
}

// TestCallsSideBySide: were something kept from call to call, several goroutines would meet in it.
func TestCallsSideBySide(t *testing.T) {
	var workers sync.WaitGroup
	wrong := make([]int, 8)
	for worker := range wrong {
		workers.Go(func() {
			d := disk.New()
			for round := range uint64(200) {
				s := at(10*round + uint64(worker))
				err := snap.Write(d, s)
				found, fault := snap.Newest(d)
				cleaned := snap.Clean(d, s.Lsn)
				names, _ := d.Names()
				lsn, ok := snap.Lsn(snap.Name(s.Lsn))
				if err != nil || fault != nil || cleaned != nil || !same(found, s) || !slices.Equal(names, []string{plainName(s.Lsn)}) || lsn != s.Lsn || !ok {
					wrong[worker]++
				}
				scribble(found)
			}
		})
	}
	workers.Wait()
	for worker, count := range wrong {
		if count > 0 {
			t.Errorf("Rule 4: worker %d had %d wrong answers beside the others", worker, count)
		}
	}
}
