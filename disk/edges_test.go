package disk_test

import (
	"math"
	"slices"
	"strings"
	"testing"

	"turnstile/api"
	"turnstile/disk"
)

func TestNamesOfAllLengths(t *testing.T) {
	d := disk.New()
	for _, name := range []string{"b", "a", "\x00", "\xff\xfe", "ab", "é", strings.Repeat("n", 63), strings.Repeat("n", 64)} {
		play(t, d, create(name), rename(name, name+""), remove(name), create(name))
	}
	for _, name := range []string{"", strings.Repeat("n", 65), strings.Repeat("n", 1000), strings.Repeat("é", 33)} {
		expectErr(t, d, create(name), api.ErrArg)
		expectErr(t, d, rename("a", name), api.ErrArg)
		expectErr(t, d, rename("none", name), api.ErrArg)
		expectErr(t, d, rename(name, name), api.ErrArg)
		expectErr(t, d, rename(name, "a"), api.ErrGone)
		for _, c := range []call{add(name, times(1, 1)), sync(name), truncate(name, -1), remove(name)} {
			expectErr(t, d, c, api.ErrGone)
		}
	}
	want := []string{"\x00", "a", "ab", "b", strings.Repeat("n", 63), strings.Repeat("n", 64), "é", "\xff\xfe"}
	if have, err := d.Names(); !slices.Equal(have, want) || err != nil {
		t.Errorf("P7.1: Names is %q, %v, want %q", have, err, want)
	}
	for i, f := range d.Seen().Files {
		if f.Name != want[i] {
			t.Errorf("P7.1: file %d of Seen is %q, want %q", i, f.Name, want[i])
		}
	}
}

// TestAppendAtTheEndsOfSectors: a file of so many safe bytes gets some more.
func TestAppendAtTheEndsOfSectors(t *testing.T) {
	for _, row := range []struct {
		safe, more, waits int
		spoilt            string // if the first one that waits is spoilt
		second            string // if the second one is kept
	}{
		{0, 0, 0, "a", "a"},
		{0, 1, 1, "a 1*0 !0", "a"},
		{0, 511, 1, "a 511*0 !0", "a"},
		{0, 512, 1, "a 512*0 !0", "a"},
		{0, 513, 2, "a 512*0 !0", "a 512*0 1*2"},
		{1, 0, 0, "a 1*1", "a 1*1"},
		{1, 510, 1, "a 511*0 !0", "a 1*1"},
		{1, 511, 1, "a 512*0 !0", "a 1*1"},
		{1, 512, 2, "a 512*0 !0", "a 1*1 511*0 1*2"},
		{511, 0, 0, "a 511*1", "a 511*1"},
		{511, 1, 1, "a 512*0 !0", "a 511*1"},
		{511, 2, 2, "a 512*0 !0", "a 511*1 1*0 1*2"},
		{512, 0, 0, "a 512*1", "a 512*1"},
		{512, 1, 1, "a 512*1 1*0 !1", "a 512*1"},
		{512, 512, 1, "a 512*1 512*0 !1", "a 512*1"},
		{512, 513, 2, "a 512*1 512*0 !1", "a 512*1 512*0 1*2"},
		{513, 511, 1, "a 512*1 512*0 !1", "a 513*1"},
		{513, 512, 2, "a 512*1 512*0 !1", "a 513*1 511*0 1*2"},
		{700, 0, 0, "a 700*1", "a 700*1"},
		{700, 1, 1, "a 512*1 189*0 !1", "a 700*1"},
		{1024, 0, 0, "a 1024*1", "a 1024*1"},
		{1024, 1025, 3, "a 1024*1 512*0 !2", "a 1024*1 512*0 512*2"},
	} {
		d := loaded(t, api.File{Name: "a", Data: times(row.safe, 1)})
		play(t, d, add("a", times(row.more, 2)))
		expectSeen(t, d, tellFile(api.File{Name: "a", Data: append(times(row.safe, 1), times(row.more, 2)...)}))
		expectSafe(t, d, tellFile(api.File{Name: "a", Data: times(row.safe, 1)}))
		expectWaiting(t, d, row.waits, 0)
		expectCrash(t, d, fates(0, 2), row.spoilt)
		expectCrash(t, d, fates(0, 0, 1), row.second)
	}
}

func TestAppendToASectorThatCannotBeRead(t *testing.T) {
	d := loaded(t, api.File{Name: "a", Data: times(700, 9), Bad: []int{0, 1}}, api.File{Name: "b", Data: times(512, 9), Bad: []int{0}})
	play(t, d, add("a", nil), add("b", times(1, 1)))
	expectSeen(t, d, "a 700*0 !0 !1; b 512*0 1*1 !0")
	expectWaiting(t, d, 1, 0)
	play(t, d, add("a", times(400, 1)))
	expectSeen(t, d, "a 700*0 400*1 !0; b 512*0 1*1 !0")
	expectSafe(t, d, "a 700*0 !0 !1; b 512*0 !0")
	expectCrash(t, d, fates(0, 0, 1, 1), "a 1024*0 76*1 !0 !1; b 512*0 1*1 !0")
	expectCrash(t, d, fates(0, 1, 0, 0), "a 700*0 324*1 !0; b 512*0 !0")
	expectCrash(t, d, fates(0, 2, 2, 2), "a 1100*0 !0 !1 !2; b 513*0 !0 !1")
	play(t, d, sync("a"), sync("b"))
	expectSafe(t, d, "a 700*0 400*1 !0; b 512*0 1*1 !0")
	expectWaiting(t, d, 0, 0)
}

func TestTruncate(t *testing.T) {
	begun := func() *disk.Disk {
		d := loaded(t, api.File{Name: "a", Data: times(1024, 1), Bad: []int{1}})
		play(t, d, add("a", times(1024, 2)))
		return d
	}
	for _, n := range []int{math.MinInt, -1024, -512, -1, 1, 511, 513, 1000, 2047, 2049, 2560, 1 << 40, math.MaxInt} {
		d := begun()
		expectErr(t, d, truncate("a", n), api.ErrArg)
		expectSeen(t, d, "a 512*1 512*0 1024*2 !1")
		expectWaiting(t, d, 2, 0)
	}
	for _, row := range []struct {
		n, waits int
		seen     string
		safe     string
		kept     string
	}{
		{2048, 2, "a 512*1 512*0 1024*2 !1", "a 512*1 512*0 !1", "a 512*1 512*0 1024*2 !1"},
		{1536, 1, "a 512*1 512*0 512*2 !1", "a 512*1 512*0 !1", "a 512*1 512*0 512*2 !1"}, // above the safe length
		{1024, 0, "a 512*1 512*0 !1", "a 512*1 512*0 !1", "a 512*1 512*0 !1"},
		{512, 0, "a 512*1", "a 512*1", "a 512*1"}, // below it
		{0, 0, "a", "a", "a"},
	} {
		d := begun()
		play(t, d, truncate("a", row.n))
		expectSeen(t, d, row.seen)
		expectSafe(t, d, row.safe)
		expectWaiting(t, d, row.waits, 0)
		expectCrash(t, d, fates(0, 1, 1, 1), row.kept)
		play(t, d, add("a", times(3, 4)), truncate("a", row.n))
		expectSeen(t, d, row.seen)
		expectWaiting(t, d, row.waits, 0)
	}
}

// TestTruncateOfWhatWaits: what waits ahead of the cut goes on waiting, what is put behind it waits anew.
func TestTruncateOfWhatWaits(t *testing.T) {
	d := loaded(t, api.File{Name: "a", Data: times(3, 1)})
	play(t, d, add("a", times(2000, 2)), truncate("a", 512))
	expectSeen(t, d, "a 3*1 509*2")
	expectSafe(t, d, "a 3*1")
	expectWaiting(t, d, 1, 0)
	play(t, d, add("a", times(2, 3)))
	expectCrash(t, d, fates(0, 0, 1), "a 3*1 509*0 2*3")
	expectCrash(t, d, fates(0, 1, 0), "a 3*1 509*2")
	play(t, d, truncate("a", 0), add("a", times(5, 4)))
	expectSafe(t, d, "a")
	expectCrash(t, d, fates(0, 1), "a 5*4")
	expectWaiting(t, d, 1, 0)
}

func TestRename(t *testing.T) {
	d := loaded(t, api.File{Name: "a", Data: times(1, 1)}, api.File{Name: "b", Data: times(2, 2)})
	play(t, d, rename("a", "a"))
	expectWaiting(t, d, 0, 0)
	expectErr(t, d, rename("x", "x"), api.ErrGone)
	expectErr(t, d, rename("x", "a"), api.ErrGone)
	expectSeen(t, d, "a 1*1; b 2*2")
	play(t, d, rename("b", "c"), rename("a", "b"), rename("c", "a"))
	expectSeen(t, d, "a 2*2; b 1*1")
	expectWaiting(t, d, 0, 3)
	expectSafe(t, d, "a 1*1; b 2*2")
	expectCrash(t, d, fates(1), "a 1*1; c 2*2")
	expectCrash(t, d, fates(2), "b 1*1; c 2*2")
	expectCrash(t, d, fates(3), "a 2*2; b 1*1")
	expectErr(t, d, rename("c", "d"), api.ErrGone)
	play(t, d, syncNames())
	expectSafe(t, d, "a 2*2; b 1*1")
}

// TestFilesThatLostTheirNames: their sectors don't count in Waiting, but they have fates as long as a name leads to them behind the loss.
func TestFilesThatLostTheirNames(t *testing.T) {
	d := loaded(t, api.File{Name: "a"}, api.File{Name: "b"}, api.File{Name: "c"})
	play(t, d, add("c", times(1, 3)), add("b", times(1, 2)), add("a", times(1, 1)))
	expectWaiting(t, d, 3, 0)
	play(t, d, remove("a"), rename("c", "b"))
	expectWaiting(t, d, 1, 2)
	expectSeen(t, d, "b 1*3")
	expectCrash(t, d, fates(0, 1, 2, 1), "a 1*1; b 1*0 !0; c 1*3")
	expectCrash(t, d, fates(1, 1, 2, 1), "b 1*2; c 1*0 !0")
	expectCrash(t, d, fates(2, 1, 2, 1), "b 1*3")
	play(t, d, create("a"), add("a", times(2, 4)), syncNames())
	expectWaiting(t, d, 2, 0)
	expectCrash(t, d, fates(0, 1), "a; b 1*3") // a is younger than the file of b
	expectCrash(t, d, fates(0, 0, 1), "a 2*4; b")
}

// TestTheOrderOfFates is that in which the files were created, not that of their names.
func TestTheOrderOfFates(t *testing.T) {
	d := loaded(t, api.File{Name: "k"}, api.File{Name: "m"})
	play(t, d, create("z"), create("a"), add("m", times(1, 2)), add("a", times(600, 4)), add("z", times(1, 3)), add("k", times(1, 1)))
	expectCrash(t, d, fates(2, 1), "a; k 1*1; m; z")
	expectCrash(t, d, fates(2, 0, 1), "a; k; m 1*2; z")
	expectCrash(t, d, fates(2, 0, 0, 1), "a; k; m; z 1*3")
	expectCrash(t, d, fates(2, 0, 0, 0, 1), "a 512*4; k; m; z")
	expectCrash(t, d, fates(2, 0, 0, 0, 0, 1), "a 512*0 88*4; k; m; z")
	expectCrash(t, d, fates(2, 0, 0, 0, 0, 0, 1, 1), "a; k; m; z")
	expectCrash(t, d, fates(1, 0, 0, 1), "k; m; z 1*3")
	expectCrash(t, d, fates(0, 0, 0, 1), "k; m")
	play(t, d, rename("k", "zz"), sync("m"))
	expectCrash(t, d, fates(3, 1, 2), "a; m 1*2; z 1*0 !0; zz 1*1")
}

func TestFatesBeyondTheirRange(t *testing.T) {
	d := loaded(t, api.File{Name: "a", Data: times(2, 1)})
	play(t, d, add("a", times(3, 2)), create("b"), remove("a"))
	for _, names := range []int{math.MinInt, -1, 0} {
		expectCrash(t, d, fates(names), "a 2*1")
	}
	expectCrash(t, d, fates(1), "a 2*1; b")
	for _, names := range []int{2, 3, math.MaxInt} {
		expectCrash(t, d, fates(names), "b")
	}
	for _, fate := range []int{math.MinInt, -1, 2, 3, 256, 257, 1 << 32, 1<<32 + 1, math.MaxInt} {
		expectCrash(t, d, fates(0, fate), "a 5*0 !0")
	}
	expectCrash(t, d, fates(0, 1, 2, 2, 2), "a 2*1 3*2")
	expectCrash(t, d, api.Fates{Sectors: []int{}}, "a 2*1")
}

// TestSyncOfAFileAlone: neither its name nor another file is safe by it.
func TestSyncOfAFileAlone(t *testing.T) {
	d := disk.New()
	play(t, d, create("a"), create("b"), add("a", times(1, 1)), add("b", times(1, 2)), sync("a"))
	expectWaiting(t, d, 1, 2)
	expectCrash(t, d, fates(0, 1), "")
	expectCrash(t, d, fates(2), "a 1*1; b")
	play(t, d, syncNames())
	expectWaiting(t, d, 1, 0)
	expectSafe(t, d, "a 1*1; b")
}
