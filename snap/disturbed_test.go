package snap_test

import (
	"fmt"
	"slices"
	"testing"

	"turnstile/api"
)

// disturbances are all that may befall the operation of this number: the power goes in it, or it fails, behind a part of its bytes if it is an Append.
func disturbances(number int) []call {
	list := []call{arm(number), arm(number, api.Fail{At: number, Part: 30})}
	for _, part := range []int{-1, 0, 1, 27, 28, 55, 56, 512, 5000} {
		list = append(list, arm(0, api.Fail{At: number, Part: part}))
	}
	return append(list, arm(0, api.Fail{At: number, Part: 3}, api.Fail{At: number, Part: 40}))
}

// expectOperations lets the power go in each operation of the call, and holds the disk against one on which those ahead of it were done, and in it the power went.
func expectOperations(t *testing.T, files []api.File, c call, list []operation) {
	t.Helper()
	for number, cut := range list {
		at := fmt.Sprintf("%s, the power lost in %s", c.what, cut.what)
		d, other := loaded(t, files...), loaded(t, files...)
		d.Arm(nil, number+1)
		_, err := c.on(d)
		expectErr(t, "P15.2, P15.4: "+at, err, api.ErrDown)
		expectErr(t, "the operations ahead", play(other, list[:number]...), nil)
		other.Arm(nil, 1)
		expectErr(t, "the last operation", cut.on(other), api.ErrDown)
		expectDisk(t, at, d, other)
	}
}

// disturb makes the call with each of its operations disturbed in each way, holds it against the plain one, and gives what is behind it. Without a disturbance the call has so many operations.
func disturb(t *testing.T, files []api.File, c call, operations int, do func(*pair)) {
	t.Helper()
	for number := 1; number <= operations; number++ {
		for _, armed := range disturbances(number) {
			x := pairOf(t, files...)
			x.call(t, armed)
			_, err := x.call(t, c)
			want := api.ErrIo
			if x.d.Down() {
				want = api.ErrDown
			}
			expectErr(t, "P15.2, P15.4: "+x.String(), err, want)
			if x.d.Ops() != number {
				t.Fatalf("P15.2, P15.4: %s: there were %d operations, want %d", x, x.d.Ops(), number)
			}
			do(x)
		}
	}
	x := pairOf(t, files...)
	x.call(t, arm(operations+1, api.Fail{At: operations + 2}))
	_, err := x.call(t, c)
	expectErr(t, "P15.2, P15.4: "+x.String(), err, nil)
}

// again gives pairs on which the call may be made anew: over the same disk, or behind each loss of power.
func (x *pair) again(t *testing.T, do func(*pair)) {
	t.Helper()
	if !x.d.Down() {
		do(x)
		return
	}
	everyFates(x.d, func(f api.Fates) {
		behind := &pair{d: x.d, other: x.other, calls: slices.Clone(x.calls)}
		behind.lose(t, f)
		do(behind)
	})
}

// newestBehind is what Newest answers behind a Write of s that nothing disturbs.
func newestBehind(t *testing.T, files []api.File, s api.State) api.State {
	t.Helper()
	d := loaded(t, files...)
	expectErr(t, "Write", plainWrite(d, s), nil)
	behind, err := plainNewest(d)
	expectErr(t, "Newest", err, nil)
	return behind
}

// TestWriteDisturbed: the first error ends it; whatever was Newest ahead of it or would be behind it, and no other, is Newest; and the Write that is made again goes.
func TestWriteDisturbed(t *testing.T) {
	for _, s := range []api.State{{}, at(5), sized(7, 900)} {
		for _, files := range disksAhead(t, s) {
			ahead, _ := plainNewest(loaded(t, files...))
			behind := newestBehind(t, files, s)
			operations := 5
			if hasBegun(files) {
				operations = 6
			}
			disturb(t, files, write(s), operations, func(x *pair) {
				x.again(t, func(x *pair) {
					found, err := x.call(t, newest())
					if !same(found, ahead) && !same(found, behind) || err != nil {
						t.Fatalf("P15.5: %s: Newest is %s, %v, want %s or %s", x, tell(found), err, tell(ahead), tell(behind))
					}
					_, err = x.call(t, write(s))
					expectErr(t, "P15.2: "+x.String(), err, nil)
					expectWritten(t, x, s)
					expectNewest(t, x.String(), x.d, behind)
				})
			})
		}
	}
}

// TestWriteDisturbedAgainAndAgain: each of the calls is disturbed in its next operation, until one gets through.
func TestWriteDisturbedAgainAndAgain(t *testing.T) {
	for part := range 60 {
		x := pairOf(t, fileOf(t, at(3)))
		for number := 1; number <= 6; number++ {
			x.call(t, arm(0, api.Fail{At: number, Part: part}))
			if _, err := x.call(t, write(at(5))); err != api.ErrIo {
				t.Fatalf("P15.2: %s: the last call answers %v", x, err)
			}
			want := at(3)
			if number == 6 { // Rename was done
				want = at(5)
			}
			expectNewest(t, x.String(), x.d, want)
			expectNewest(t, x.String()+", a loss", loaded(t, x.d.Safe().Files...), at(3))
		}
		_, err := x.call(t, write(at(5)))
		expectErr(t, "P15.2: "+x.String(), err, nil)
		expectWritten(t, x, at(5))
	}
}

// TestCleanDisturbed: the first error ends it; the snapshots to keep are there all along; and the Clean that is made again goes.
func TestCleanDisturbed(t *testing.T) {
	begun := api.File{Name: "temp", Data: []byte("begun")}
	for i, files := range [][]api.File{
		{begun},
		{fileOf(t, at(3))},
		{fileOf(t, at(3)), fileOf(t, at(4)), fileOf(t, at(5)), fileOf(t, at(6))},
		{fileOf(t, at(3)), badFiles(t, 4)[1], fileOf(t, at(5)), begun},
		append(otherFiles(t), fileOf(t, at(2)), badFiles(t, 6)[0], begun),
	} {
		names, _ := loaded(t, files...).Names()
		operations := len(cleanOperations(names, 5))
		kept := keptFrom(names, 5)
		disturb(t, files, clean(5), operations, func(x *pair) {
			x.again(t, func(x *pair) {
				expectAllThere(t, x, kept)
				_, err := x.call(t, clean(5))
				expectErr(t, "P15.4: "+x.String(), err, nil)
				expectNames(t, fmt.Sprintf("P15.4: row %d, %s", i, x), x.d, kept...)
				x.call(t, newest())
			})
		})
	}
}

// keptFrom are the names that Clean leaves.
func keptFrom(names []string, keep uint64) []string {
	return slices.DeleteFunc(slices.Clone(names), func(name string) bool {
		lsn, ok := plainLsn(name)
		return name == "temp" || ok && lsn < keep
	})
}

func expectAllThere(t *testing.T, x *pair, want []string) {
	t.Helper()
	names, _ := x.d.Names()
	for _, name := range want {
		if !slices.Contains(names, name) {
			t.Fatalf("P15.4: %s: %q is gone", x, name)
		}
	}
}
