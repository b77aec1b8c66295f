package disk_test

import (
	"strings"
	"testing"

	"turnstile/api"
	"turnstile/disk"
)

func TestExamplesOfWhatWaits(t *testing.T) {
	d := disk.New()
	play(t, d, create("a"), add("a", times(3, 1)))
	expectSeen(t, d, "a 3*1")
	expectSafe(t, d, "")
	expectCrash(t, d, fates(1), "a")
	expectCrash(t, d, fates(1, 1), "a 3*1")
	expectCrash(t, d, fates(1, 2), "a 3*0 !0")
	expectWaiting(t, d, 1, 1)

	play(t, d, sync("a"))
	expectCrash(t, d, fates(1), "a 3*1")
	expectCrash(t, d, fates(0), "")
	play(t, d, syncNames())
	expectSafe(t, d, "a 3*1")
	expectWaiting(t, d, 0, 0)

	play(t, d, add("a", times(1000, 7)))
	expectWaiting(t, d, 2, 0)
	expectCrash(t, d, fates(0, 0, 1), "a 3*1 509*0 491*7")
	expectCrash(t, d, fates(0, 1, 0), "a 3*1 509*7")
	expectCrash(t, d, fates(0, 0, 2), "a 3*1 1000*0 !1")
}

func TestExampleOfFailures(t *testing.T) {
	d := loaded(t, api.File{Name: "a"})
	play(t, d, arm(3, api.Fail{At: 1, Part: 2}))
	expectErr(t, d, add("a", times(5, 1)), api.ErrIo)
	expectSeen(t, d, "a 2*1")
	play(t, d, sync("a"))
	expectErr(t, d, add("a", times(4, 2)), api.ErrDown)
	for _, c := range []call{create("b"), add("a", times(1, 1)), sync("a"), truncate("a", 0), rename("a", "b"), remove("a"), syncNames()} {
		expectErr(t, d, c, api.ErrDown)
	}
	expectSeen(t, d, "")
	expectSafe(t, d, "a 2*1")
	expectCrash(t, d, fates(0, 1), "a 2*1 4*2")
	expectCrash(t, d, fates(0, 2), "a 6*0 !0")
	expectWaiting(t, d, 1, 0)
}

func TestExamplesOfNames(t *testing.T) {
	d := loaded(t, api.File{Name: "a", Data: times(2, 1)}, api.File{Name: "b", Data: times(1, 2)})
	play(t, d, rename("a", "b"))
	expectSeen(t, d, "b 2*1")
	expectCrash(t, d, fates(0), "a 2*1; b 1*2")
	play(t, d, remove("b"))
	expectCrash(t, d, fates(1), "b 2*1")
	expectCrash(t, d, fates(2), "")
	expectWaiting(t, d, 0, 2)
}

func TestExamplesOfErrors(t *testing.T) {
	d := disk.New()
	expectErr(t, d, create(""), api.ErrArg)
	expectErr(t, d, create(strings.Repeat("a", 65)), api.ErrArg)
	expectErr(t, d, create("a"), nil)
	expectErr(t, d, create("a"), api.ErrThere)
	for _, c := range []call{add("x", nil), sync("x"), truncate("x", 0), remove("x"), rename("x", "y")} {
		expectErr(t, d, c, api.ErrGone)
	}
	if data, bad, err := d.Read("x"); data != nil || bad != nil || err != api.ErrGone {
		t.Errorf("P7.1: Read of no file is %x, %v, %v", data, bad, err)
	}
	play(t, d, add("a", times(3, 1)), sync("a"), syncNames())
	expectErr(t, d, truncate("a", 3), api.ErrArg)
	expectSafe(t, d, "a 3*1")
	expectErr(t, d, truncate("a", 0), nil)
	expectSeen(t, d, "a")
	expectSafe(t, d, "a")
}

// TestNil is of DOC.md's Rule 5.
func TestNil(t *testing.T) {
	var d *disk.Disk
	d.Arm([]api.Fail{{At: 1}}, 1)
	for _, img := range []api.Image{d.Seen(), d.Safe(), d.Crash(api.Fates{}), d.Crash(fates(3, 1, 2))} {
		if len(img.Files) != 0 {
			t.Errorf("P7.1: a nil disk has %s", tell(img))
		}
	}
	expectWaiting(t, d, 0, 0)
	if d.Ops() != 0 || d.Down() {
		t.Errorf("P7.1: of a nil disk Ops is %d, Down %v", d.Ops(), d.Down())
	}
	for _, c := range []call{create("a"), create(""), add("a", nil), sync("a"), truncate("a", -1), rename("a", ""), remove("a"), syncNames()} {
		expectErr(t, d, c, api.ErrNil)
	}
	if data, bad, err := d.Read(""); data != nil || bad != nil || err != api.ErrNil {
		t.Errorf("P7.1: of a nil disk Read is %x, %v, %v", data, bad, err)
	}
	if names, err := d.Names(); names != nil || err != api.ErrNil {
		t.Errorf("P7.1: of a nil disk Names is %q, %v", names, err)
	}
}

func TestNew(t *testing.T) {
	d := disk.New()
	expectSame(t, "P7.1", nil, d, newPlain(), someFates())
	for range 20 {
		play(t, d, syncNames()) // nothing is armed
	}
	if d.Ops() != 20 || d.Down() {
		t.Errorf("P7.1: behind 20 operations Ops is %d, Down %v", d.Ops(), d.Down())
	}
}
