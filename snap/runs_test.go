package snap_test

import (
	"fmt"
	"math/rand"
	"slices"
	"strings"
	"testing"

	"turnstile/api"
	"turnstile/snap"
)

func anyOf[T any](r *rand.Rand, list ...T) T { return list[r.Intn(len(list))] }

// anyLsn is one of few numbers, so that they meet again, most of them rising with the rounds.
func anyLsn(r *rand.Rand, round int) uint64 {
	return anyOf(r, uint64(round), uint64(round), uint64(round/2), uint64(r.Intn(20)), 0, 255, 256, last-1, last)
}

func anyState(t *testing.T, r *rand.Rand, round int) api.State {
	t.Helper()
	if r.Intn(15) == 0 {
		return anyOf(r, wrongStates()[4:]...)
	}
	s := sized(anyLsn(r, round), anyOf(r, 56, 100, 511, 512, 513, 700, 1025, 1400))
	s.Floor = r.Uint64() >> r.Intn(64)
	return s
}

// anyName is of a snapshot most of the time, or "temp", or of another file.
func anyName(r *rand.Rand, round int) string {
	switch r.Intn(4) {
	case 0:
		return "temp"
	case 1:
		return anyOf(r, otherNames()...)
	}
	return plainName(anyLsn(r, round))
}

// anyOperation is one that another program might do to the files; some are refused.
func anyOperation(t *testing.T, r *rand.Rand, round int) operation {
	t.Helper()
	name := anyName(r, round)
	switch r.Intn(8) {
	case 0:
		return create(name)
	case 1:
		return put(name, slices.Repeat([]byte{byte(1 + r.Intn(255))}, anyOf(r, 1, 3, 511, 600)))
	case 2:
		return put(name, bytesOf(t, at(anyLsn(r, round))))
	case 3:
		return remove(name)
	case 4:
		return rename(name, anyName(r, round))
	case 5:
		return truncate(name, 512*r.Intn(2))
	case 6:
		return syncOf(name)
	}
	return syncNames()
}

func anyArm(r *rand.Rand) call {
	var fails []api.Fail
	for range r.Intn(3) {
		fails = append(fails, api.Fail{At: r.Intn(9), Part: anyOf(r, -1, 0, 1, 27, 56, 511, 512, 513, 5000)})
	}
	return arm(anyOf(r, 0, 0, 1, 2, 3, 4, 5, 6), fails...)
}

func anyCall(t *testing.T, r *rand.Rand, round int) call {
	t.Helper()
	switch r.Intn(12) {
	case 0, 1, 2, 3:
		return write(anyState(t, r, round))
	case 4, 5, 6:
		return newest()
	case 7, 8:
		return clean(anyOf(r, anyLsn(r, round), anyLsn(r, round), uint64(round)+1, m))
	case 9:
		return anyArm(r)
	}
	return ofDisk(anyOperation(t, r, round))
}

func anyFates(r *rand.Rand) api.Fates {
	f := fates(r.Intn(5))
	for range r.Intn(9) {
		f.Sectors = append(f.Sectors, anyOf(r, 0, 1, 1, 1, 2, 7))
	}
	return f
}

// anyFiles are snapshots, good ones and others, and files of other names.
func anyFiles(t *testing.T, r *rand.Rand) []api.File {
	t.Helper()
	files := map[string]api.File{}
	for range r.Intn(6) {
		f := fileOf(t, sized(anyLsn(r, r.Intn(10)), anyOf(r, 56, 512, 1025)))
		switch r.Intn(5) {
		case 0:
			f.Bad = []int{r.Intn((len(f.Data) + 511) / 512)}
		case 1:
			f.Data[r.Intn(len(f.Data))] ^= 16
		case 2:
			f.Name = anyName(r, 5)
		}
		files[f.Name] = f
	}
	var list []api.File
	for _, f := range files {
		list = append(list, f)
	}
	return list
}

// TestRuns: every answer, and all that the disk has, is the plain one's, over failures, losses of power and what others do to the files.
func TestRuns(t *testing.T) {
	r := rand.New(rand.NewSource(154))
	seen := map[string]int{}
	for range 500 {
		x := pairOf(t, anyFiles(t, r)...)
		for round := range 40 {
			c := anyCall(t, r, round)
			s, err := x.call(t, c)
			if r.Intn(5) == 0 {
				x.call(t, newest())
			}
			what, _, _ := strings.Cut(c.what, "(")
			seen[fmt.Sprint(what, " ", err)]++
			if c.what == "Newest" && err == nil {
				seen[fmt.Sprint("a state of none: ", same(s, api.State{}))]++
			}
			if x.d.Down() && r.Intn(2) == 0 || r.Intn(15) == 0 {
				x.lose(t, anyFates(r))
			}
		}
	}
	var wanted []string
	for _, what := range []string{"Write", "Clean"} {
		for _, err := range []error{nil, api.ErrIo, api.ErrDown} {
			wanted = append(wanted, fmt.Sprint(what, " ", err))
		}
	}
	wanted = append(wanted, fmt.Sprint("Write ", api.ErrArg), fmt.Sprint("Newest ", nil), fmt.Sprint("Newest ", api.ErrDown), "a state of none: true", "a state of none: false")
	for _, kind := range wanted {
		if seen[kind] < 50 {
			t.Errorf("%d of the kind %q, want 50 and more", seen[kind], kind)
		}
	}
}

// run is a disk to which this package alone writes, behind a start with nothing on it: what it has to answer is known without a look at it.
type run struct {
	*pair
	safe api.State   // the newest one whose Write answered nil
	may  []api.State // those whose Write didn't, since the last loss
}

// TestWhatWasWrittenLasts: behind every loss Newest is the newest state whose Write answered nil, or a newer one whose Write didn't; Clean up to it takes nothing of that.
func TestWhatWasWrittenLasts(t *testing.T) {
	r := rand.New(rand.NewSource(155))
	losses, kept := 0, 0
	for range 150 {
		x := &run{pair: pairOf(t)}
		for round := range 40 {
			x.writeOne(t, r, round)
			if r.Intn(6) == 0 && !x.d.Down() {
				x.call(t, clean(x.safe.Lsn))
			}
			if x.d.Down() || r.Intn(4) == 0 {
				losses++
				kept += x.expectAfterLoss(t, r)
			}
		}
	}
	if losses < 1000 || kept < 100 {
		t.Errorf("there were %d losses alone, and behind %d of them a state was found whose Write had not answered nil", losses, kept)
	}
}

// writeOne writes a state with a greater number than those ahead, most of the time disturbed.
func (x *run) writeOne(t *testing.T, r *rand.Rand, round int) {
	t.Helper()
	x.call(t, anyArm(r))
	s := sized(uint64(10+round), anyOf(r, 56, 512, 700, 1025))
	_, err := x.call(t, write(s))
	if err == nil {
		x.safe, x.may = s, nil
		return
	}
	x.may = append(x.may, s)
}

// expectAfterLoss answers 1 if a state was found whose Write had not answered nil.
func (x *run) expectAfterLoss(t *testing.T, r *rand.Rand) int {
	t.Helper()
	x.lose(t, anyFates(r))
	found, err := snap.Newest(x.d)
	expectErr(t, "P15.5: "+x.String()+", Newest", err, nil)
	newer := slices.ContainsFunc(x.may, func(s api.State) bool { return same(s, found) })
	if !newer && !same(found, x.safe) {
		t.Fatalf("P15.5: %s: Newest is %s, want %s at least", x, tell(found), tell(x.safe))
	}
	x.safe, x.may = found, nil
	if newer {
		return 1
	}
	return 0
}
