package snap_test

import (
	"testing"

	"turnstile/api"
	"turnstile/disk"
	"turnstile/snap"
)

func TestNewestWithoutSnapshots(t *testing.T) {
	expectNewest(t, "a new disk", disk.New(), api.State{})
	expectNewest(t, "other files alone", loaded(t, otherFiles(t)...), api.State{})
	expectNewest(t, "temp alone", loaded(t, named(fileOf(t, at(5)), "temp")), api.State{})
	for _, name := range append(otherNames(), "temp") {
		expectNewest(t, name, loaded(t, named(fileOf(t, at(9)), name)), api.State{})
		expectNewest(t, name, loaded(t, named(fileOf(t, at(9)), name), fileOf(t, at(4))), at(4))
	}
}

func TestNewestOfOne(t *testing.T) {
	for _, s := range allStates() {
		expectNewest(t, "one alone", loaded(t, fileOf(t, s)), s)
		expectNewest(t, "one beside other files", loaded(t, append(otherFiles(t), fileOf(t, s), named(fileOf(t, at(last)), "temp"))...), s)
	}
}

// TestNewestHasTheGreatestNumber: by the number, not by the order in which they were written, by the floor or the size.
func TestNewestHasTheGreatestNumber(t *testing.T) {
	numbers := []uint64{0, 1, 2, 9, 10, 15, 16, 17, 99, 100, 159, 160, 255, 256, 4095, 1 << 31, 1 << 32, 1<<62 - 1, 1 << 62}
	for _, a := range numbers {
		for _, b := range numbers {
			if a == b {
				continue
			}
			low, high := stateOf(min(a, b), m, manyKeys(30)...), stateOf(max(a, b), 0)
			expectNewest(t, "two", loaded(t, fileOf(t, low), fileOf(t, high)), high)
			d := disk.New()
			expectErr(t, "P15.2: Write", snap.Write(d, high), nil)
			expectErr(t, "P15.2: Write", snap.Write(d, low), nil)
			expectNewest(t, "two, the lower one written last", d, high)
		}
	}
	var files []api.File
	for _, lsn := range numbers {
		files = append(files, fileOf(t, at(lsn)))
		expectNewest(t, "many", loaded(t, files...), at(lsn))
	}
}

// TestNewestLeavesOutWhatIsNotGood: each kind of it as the greatest number, alone and with a good one below it.
func TestNewestLeavesOutWhatIsNotGood(t *testing.T) {
	for _, lsn := range []uint64{5, 256, last} {
		below := badFiles(t, lsn-1)
		for i, f := range badFiles(t, lsn) {
			expectNewest(t, "one that isn't good", loaded(t, f), api.State{})
			expectNewest(t, "one that isn't good, over a good one", loaded(t, f, fileOf(t, at(lsn-1))), at(lsn-1))
			expectNewest(t, "one that isn't good, over a good one of 0", loaded(t, f, fileOf(t, at(0))), at(0))
			if lsn < last {
				expectNewest(t, "one that isn't good, below a good one", loaded(t, f, fileOf(t, at(lsn+1))), at(lsn+1))
			}
			next := below[(i+1)%len(below)]
			expectNewest(t, "two that aren't good", loaded(t, f, next), api.State{})
			expectNewest(t, "two that aren't good, over a good one", loaded(t, f, next, fileOf(t, at(lsn-2))), at(lsn-2))
		}
	}
}

// TestNewestOfTheNumberZero: a snapshot that isn't good is no other answer than none.
func TestNewestOfTheNumberZero(t *testing.T) {
	s := stateOf(0, 77, flow("k", 3, 0, 9))
	expectNewest(t, "a good one of 0", loaded(t, fileOf(t, s)), s)
	f := fileOf(t, s)
	f.Bad = []int{0}
	expectNewest(t, "one of 0 that can't be read", loaded(t, f), api.State{})
	expectNewest(t, "the state of 5 under 0", loaded(t, named(fileOf(t, at(5)), plainName(0))), api.State{})
	expectNewest(t, "no bytes under 0", loaded(t, api.File{Name: plainName(0)}), api.State{})
}

// TestNewestSeesWhatIsNotSafe: it goes by what is seen, as reading does.
func TestNewestSeesWhatIsNotSafe(t *testing.T) {
	d := loaded(t, fileOf(t, at(3)))
	expectErr(t, "operations", play(d, create(plainName(7)), put(plainName(7), bytesOf(t, at(7)))), nil)
	expectNewest(t, "a snapshot that waits", d, at(7))
	expectNewest(t, "it is lost", loaded(t, d.Safe().Files...), at(3))
	expectErr(t, "operations", play(d, put(plainName(7), []byte{0})), nil)
	expectNewest(t, "a byte more behind it", d, at(3))
	expectErr(t, "operations", play(d, remove(plainName(3))), nil)
	expectNewest(t, "the other one is removed", d, api.State{})
}

// TestNewestIsNoOperation: what is armed isn't met, and the count behind Arm doesn't go on.
func TestNewestIsNoOperation(t *testing.T) {
	for cut := 1; cut <= 3; cut++ {
		d := loaded(t, fileOf(t, at(3)), badFiles(t, 5)[0], api.File{Name: "temp"})
		d.Arm([]api.Fail{{At: cut + 1}}, cut)
		for range 5 {
			expectNewest(t, "armed", d, at(3))
		}
		for number := 1; number <= cut; number++ {
			want := error(nil)
			if number == cut {
				want = api.ErrDown
			}
			expectErr(t, "P15.3: SyncNames behind Newest", d.SyncNames(), want)
		}
	}
}
