package disk_test

import (
	"math"
	"testing"

	"turnstile/api"
	"turnstile/disk"
)

func expectCounts(t *testing.T, d *disk.Disk, ops int, down bool) {
	t.Helper()
	if d.Ops() != ops || d.Down() != down {
		t.Errorf("P7.1: Ops is %d, Down %v, want %d, %v", d.Ops(), d.Down(), ops, down)
	}
}

// used is a disk on which something of each kind waits, with three operations behind it.
func used(t *testing.T) *disk.Disk {
	t.Helper()
	d := loaded(t, api.File{Name: "a", Data: times(512, 1)})
	play(t, d, add("a", times(2, 2)), create("b"), add("b", times(1, 3)))
	return d
}

const usedSeen, usedSafe = "a 512*1 2*2; b 1*3", "a 512*1"

// TestTheSevenOperations: each one done, failing, with the power lost in it.
func TestTheSevenOperations(t *testing.T) {
	for _, row := range []struct {
		call call
		done string // Seen behind it
		safe string // Safe behind it
		cut  string // what is kept of everything if the power went in it
	}{
		{create("c"), usedSeen + "; c", usedSafe, usedSeen + "; c"},
		{add("a", times(4, 4)), "a 512*1 2*2 4*4; b 1*3", usedSafe, "a 512*1 2*2 4*4; b 1*3"},
		{sync("a"), usedSeen, "a 512*1 2*2", usedSeen},
		{truncate("a", 0), "a; b 1*3", "a", usedSeen},
		{rename("a", "b"), "b 512*1 2*2", usedSafe, "b 512*1 2*2"},
		{rename("a", "a"), usedSeen, usedSafe, usedSeen},
		{remove("a"), "b 1*3", usedSafe, "b 1*3"},
		{syncNames(), usedSeen, "a 512*1; b", usedSeen},
	} {
		d := used(t)
		play(t, d, row.call)
		expectSeen(t, d, row.done)
		expectSafe(t, d, row.safe)
		expectCounts(t, d, 4, false)

		d = used(t)
		d.Arm([]api.Fail{{At: 1}}, 0)
		expectErr(t, d, row.call, api.ErrIo)
		expectSeen(t, d, usedSeen)
		expectSafe(t, d, usedSafe)
		expectCounts(t, d, 4, false)

		d = used(t)
		d.Arm(nil, 1)
		expectErr(t, d, row.call, api.ErrDown)
		expectSeen(t, d, "")
		expectSafe(t, d, usedSafe)
		expectCrash(t, d, all(d), row.cut)
		expectCounts(t, d, 4, true)
	}
}

// TestRefusedOperations: refused as such, failing, with the power lost in them; they are counted and do nothing.
func TestRefusedOperations(t *testing.T) {
	for _, row := range []struct {
		call call
		err  error
	}{
		{create(""), api.ErrArg},
		{create("a"), api.ErrThere},
		{add("x", times(4, 4)), api.ErrGone},
		{sync("x"), api.ErrGone},
		{truncate("x", 0), api.ErrGone},
		{truncate("a", 1), api.ErrArg},
		{truncate("a", 1024), api.ErrArg},
		{rename("a", ""), api.ErrArg},
		{rename("x", "a"), api.ErrGone},
		{rename("x", "x"), api.ErrGone},
		{remove("x"), api.ErrGone},
	} {
		d := used(t)
		expectErr(t, d, row.call, row.err)
		expectSeen(t, d, usedSeen)
		expectCrash(t, d, all(d), usedSeen)
		expectCounts(t, d, 4, false)

		d = used(t)
		d.Arm([]api.Fail{{At: 1, Part: 2}}, 0)
		expectErr(t, d, row.call, api.ErrIo)
		expectSeen(t, d, usedSeen)
		expectCrash(t, d, all(d), usedSeen)
		expectErr(t, d, row.call, row.err) // the second one isn't armed
		expectCounts(t, d, 5, false)

		d = used(t)
		d.Arm(nil, 1)
		expectErr(t, d, row.call, api.ErrDown)
		expectCrash(t, d, all(d), usedSeen)
		expectWaiting(t, d, 2, 1)
		expectCounts(t, d, 4, true)
	}
}

func TestParts(t *testing.T) {
	for _, row := range []struct {
		part  int
		seen  string
		waits int
	}{
		{math.MinInt, "a 511*1", 0},
		{-1, "a 511*1", 0},
		{0, "a 511*1", 0},
		{1, "a 511*1 1*2", 1},
		{2, "a 511*1 2*2", 2},
		{599, "a 511*1 599*2", 3},
		{600, "a 511*1 600*2", 3},
		{601, "a 511*1 600*2", 3},
		{math.MaxInt, "a 511*1 600*2", 3},
	} {
		d := loaded(t, api.File{Name: "a", Data: times(511, 1)})
		d.Arm([]api.Fail{{At: 1, Part: row.part}}, 0)
		expectErr(t, d, add("a", times(600, 2)), api.ErrIo)
		expectSeen(t, d, row.seen)
		expectSafe(t, d, "a 511*1")
		expectWaiting(t, d, row.waits, 0)
	}
	d := loaded(t, api.File{Name: "a"})
	d.Arm([]api.Fail{{At: 1, Part: 5}}, 0)
	expectErr(t, d, add("a", nil), api.ErrIo)
	expectWaiting(t, d, 0, 0)
}

func TestTheFirstFailOfANumberCounts(t *testing.T) {
	d := loaded(t, api.File{Name: "a"})
	d.Arm([]api.Fail{{At: 2, Part: 1}, {At: 1, Part: 3}, {At: 2, Part: 4}, {At: 1, Part: -1}}, 0)
	expectErr(t, d, add("a", times(5, 1)), api.ErrIo)
	expectErr(t, d, add("a", times(5, 2)), api.ErrIo)
	expectErr(t, d, add("a", times(5, 3)), nil)
	expectSeen(t, d, "a 3*1 1*2 5*3")
}

// TestAFailureAndACutOfOneNumber: the power goes, and the Append is done as a whole.
func TestAFailureAndACutOfOneNumber(t *testing.T) {
	d := loaded(t, api.File{Name: "a"})
	d.Arm([]api.Fail{{At: 1, Part: 1}}, 1)
	expectErr(t, d, add("a", times(5, 1)), api.ErrDown)
	expectCounts(t, d, 1, true)
	expectCrash(t, d, fates(0, 1), "a 5*1")
	d = loaded(t, api.File{Name: "a"})
	d.Arm([]api.Fail{{At: 1, Part: 1}}, 1)
	expectErr(t, d, add("x", times(5, 1)), api.ErrDown)
	expectCrash(t, d, fates(0, 1), "a")
}

func TestNumbersThatAreNeverMet(t *testing.T) {
	for _, number := range []int{math.MinInt, -3, -2, -1, 0, 7, math.MaxInt} {
		d := loaded(t, api.File{Name: "a"})
		play(t, d, create("b"), create("c")) // ahead of Arm
		d.Arm([]api.Fail{{At: number, Part: 1}}, number)
		play(t, d, create("d"), add("a", nil), syncNames())
		expectErr(t, d, add("x", nil), api.ErrGone)
		play(t, d, sync("a"), remove("d"))
		expectCounts(t, d, 8, false)
	}
}

// TestArmAgain: what was armed before is forgotten, and the count begins anew.
func TestArmAgain(t *testing.T) {
	d := disk.New()
	d.Arm([]api.Fail{{At: 1}, {At: 2}, {At: 4}}, 3)
	expectErr(t, d, create("a"), api.ErrIo)
	d.Arm([]api.Fail{{At: 2}}, 5)
	expectErr(t, d, create("a"), nil)
	expectErr(t, d, syncNames(), api.ErrIo)
	expectErr(t, d, syncNames(), nil)
	expectErr(t, d, syncNames(), nil)
	d.Arm(nil, 0)
	for range 10 {
		expectErr(t, d, syncNames(), nil)
	}
	d.Arm(nil, 2)
	expectErr(t, d, create("a"), api.ErrThere)
	expectErr(t, d, syncNames(), api.ErrDown)
	expectCounts(t, d, 17, true)
}

func TestArmBehindTheLossOfPower(t *testing.T) {
	d := used(t)
	d.Arm(nil, 2)
	expectErr(t, d, sync("x"), api.ErrGone)
	expectErr(t, d, sync("a"), api.ErrDown)
	d.Arm([]api.Fail{{At: 1, Part: 1}}, 0)
	expectErr(t, d, add("a", times(2, 2)), api.ErrDown)
	d.Arm(nil, 0)
	for _, c := range []call{create(""), create("a"), add("x", nil), truncate("a", 1), rename("x", ""), remove("x"), syncNames()} {
		expectErr(t, d, c, api.ErrDown)
	}
	expectCounts(t, d, 5, true)
	expectCrash(t, d, all(d), usedSeen)
	expectWaiting(t, d, 2, 1)
}

// TestAnswersBehindTheLossOfPower: Seen is empty, Read and Names are ErrDown ahead of all else; the others answer as ever.
func TestAnswersBehindTheLossOfPower(t *testing.T) {
	d := used(t)
	list := someFates()
	var ahead []string
	for _, f := range list {
		ahead = append(ahead, tell(d.Crash(f)))
	}
	d.Arm(nil, 1)
	expectErr(t, d, sync("a"), api.ErrDown)
	expectSeen(t, d, "")
	expectSafe(t, d, usedSafe)
	expectWaiting(t, d, 2, 1)
	for i, f := range list {
		expectCrash(t, d, f, ahead[i])
	}
	for _, name := range []string{"a", "b", "x", ""} {
		if data, bad, err := d.Read(name); data != nil || bad != nil || err != api.ErrDown {
			t.Errorf("P7.1: Read(%q) with the power off is %x, %v, %v", name, data, bad, err)
		}
	}
	if names, err := d.Names(); names != nil || err != api.ErrDown {
		t.Errorf("P7.1: Names with the power off is %q, %v", names, err)
	}
}

// TestOtherCallsAreNoOperations: neither are they counted, nor do they meet what is armed.
func TestOtherCallsAreNoOperations(t *testing.T) {
	d := used(t)
	d.Arm([]api.Fail{{At: 1}}, 2)
	for range 3 {
		d.Seen()
		d.Safe()
		d.Crash(fates(1, 1))
		d.Waiting()
		d.Names()
		d.Read("a")
	}
	expectCounts(t, d, 3, false)
	expectErr(t, d, sync("a"), api.ErrIo)
	expectErr(t, d, sync("a"), api.ErrDown)
}
