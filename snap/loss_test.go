package snap_test

import (
	"fmt"
	"testing"

	"turnstile/api"
	"turnstile/snap"
)

// everyLoss gives the disks that a loss of power in each operation of Write leaves, with each number of changes and each fate of each sector.
func everyLoss(t *testing.T, files []api.File, s api.State, do func(at string, left api.Image)) {
	t.Helper()
	for number := 1; ; number++ {
		d := loaded(t, files...)
		d.Arm(nil, number)
		err := snap.Write(d, s)
		if d.Ops() < number {
			expectErr(t, "P15.2: Write", err, nil)
			return
		}
		expectErr(t, "P15.2: Write", err, api.ErrDown)
		everyFates(d, func(f api.Fates) {
			do(fmt.Sprintf("Write of %s to %s, the power lost in operation %d, with %v", tell(s), tellImage(api.Image{Files: files}), number, f), d.Crash(f))
		})
	}
}

// TestALossWithinWrite: Newest is as it was before, or as it is behind Write; both are met, where they aren't the same.
func TestALossWithinWrite(t *testing.T) {
	for _, s := range smallStates() {
		for _, files := range disksAhead(t, s) {
			ahead, _ := plainNewest(loaded(t, files...))
			behind := newestBehind(t, files, s)
			asAhead, asBehind := 0, 0
			everyLoss(t, files, s, func(at string, left api.Image) {
				found, err := snap.Newest(loaded(t, left.Files...))
				switch {
				case err == nil && same(found, ahead):
					asAhead++
				case err == nil && same(found, behind):
					asBehind++
				default:
					t.Fatalf("P15.5: %s: Newest is %s, %v, want %s or %s", at, tell(found), err, tell(ahead), tell(behind))
				}
			})
			if asAhead == 0 || asBehind == 0 && !same(ahead, behind) {
				t.Errorf("P15.5: Write of %s: %d losses leave Newest as ahead of it, %d as behind it", tell(s), asAhead, asBehind)
			}
		}
	}
}

// TestALossLeavesTheOtherFiles: all but "temp" and the snapshot itself stand as they stood.
func TestALossLeavesTheOtherFiles(t *testing.T) {
	for _, s := range []api.State{at(5), sized(5, 900)} {
		for _, files := range disksAhead(t, s) {
			everyLoss(t, files, s, func(at string, left api.Image) {
				if !sameImage(without(left, "temp", plainName(s.Lsn)), without(loaded(t, files...).Seen(), "temp", plainName(s.Lsn))) {
					t.Fatalf("P15.5: %s: there is %s", at, tellImage(left))
				}
			})
		}
	}
}

func without(img api.Image, names ...string) api.Image {
	var out api.Image
	for _, f := range img.Files {
		if f.Name != names[0] && f.Name != names[1] {
			out.Files = append(out.Files, f)
		}
	}
	return out
}

// TestALossOfAFullState: with the sectors all lost, all kept, all spoilt, and one of them otherwise than the rest.
func TestALossOfAFullState(t *testing.T) {
	s := fullStates()[0]
	sectors := (len(bytesOf(t, s)) + 511) / 512
	for number := 1; number <= 5; number++ {
		d := loaded(t, fileOf(t, at(5)))
		d.Arm(nil, number)
		expectErr(t, "P15.2: Write", snap.Write(d, s), api.ErrDown)
		for names := range 4 {
			for _, most := range []int{api.Lost, api.Kept, api.Spoilt} {
				for _, odd := range []int{0, 1, sectors / 2, sectors - 1} {
					f := fates(names)
					for range sectors {
						f.Sectors = append(f.Sectors, most)
					}
					f.Sectors[odd] = (most + 1) % 3
					want := at(5)
					if number >= 4 && names >= 2 { // its name is made, and leads to bytes that were synced
						want = s
					}
					expectNewest(t, fmt.Sprintf("P15.5: the power lost in operation %d, %d changes made", number, names), loaded(t, d.Crash(f).Files...), want)
				}
			}
		}
	}
}

// TestLossesOneBehindTheOther: within one Write behind the other, each over what the loss ahead of it left; Newest never falls back.
func TestLossesOneBehindTheOther(t *testing.T) {
	list := someFates()
	d := loaded(t)
	newest := api.State{}
	reached := 0
	for round := range 600 {
		s := at(uint64(1 + round/6))
		if round%4 == 1 {
			s = sized(s.Lsn, 200+round)
		}
		d.Arm(nil, 1+round%7)
		err := snap.Write(d, s)
		f := list[round*13%len(list)]
		d = loaded(t, d.Crash(f).Files...)
		found, fault := snap.Newest(d)
		behind := fmt.Sprintf("behind loss %d, with %v", round+1, f)
		expectErr(t, "P15.5: "+behind+": Newest", fault, nil)
		if err == nil && !same(found, s) || !same(found, newest) && !same(found, s) {
			t.Fatalf("P15.5: %s: Write of %s answers %v, Newest is %s, was %s", behind, tell(s), err, tell(found), tell(newest))
		}
		if !same(found, newest) {
			reached++
		}
		newest = found
		if round%9 == 8 {
			expectErr(t, "P15.4: Clean", snap.Clean(d, newest.Lsn), nil)
		}
	}
	if reached < 100 || newest.Lsn < 90 {
		t.Errorf("P15.5: behind 600 losses Newest has changed %d times, and is %s", reached, tell(newest))
	}
}
