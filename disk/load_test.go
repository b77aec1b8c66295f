package disk_test

import (
	"math"
	"strings"
	"testing"

	"turnstile/api"
	"turnstile/disk"
)

func TestLoadRefuses(t *testing.T) {
	file := func(name string, size int, bad ...int) api.File {
		return api.File{Name: name, Data: times(size, 1), Bad: bad}
	}
	for _, files := range [][]api.File{
		{file("", 1)},
		{file("", 0), file("a", 1)},
		{file("a", 1), file("", 1)},
		{file(strings.Repeat("n", 65), 1)},
		{file("a", 1), file(strings.Repeat("n", 65), 1)},
		{file("a", 1), file("a", 1)},
		{file("b", 1), file("a", 1)},
		{file("a", 1), file("c", 1), file("b", 1)},
		{file("ab", 1), file("a", 1)},
		{file("a\x00", 1), file("a", 1)},
		{file("\xff", 1), file("é", 1)},
		{file("a", 0, 0)},
		{file("a", 1, 1)},
		{file("a", 511, 1)},
		{file("a", 512, 1)},
		{file("a", 513, 2)},
		{file("a", 1024, 0, 1, 2)},
		{file("a", 1, -1)},
		{file("a", 1, -1, 0)},
		{file("a", 1, math.MinInt)},
		{file("a", 1, math.MaxInt)},
		{file("a", 1, 1<<55)}, // 512 times it is 0 in 64 bits
		{file("a", 1, math.MinInt+1)},
		{file("a", 2000, 0, 0)},
		{file("a", 2000, 1, 0)},
		{file("a", 2000, 0, 2, 1)},
		{file("a", 2000, 3, 3)},
		{file("a", 1), file("b", 1, 1)},
	} {
		if d, err := disk.Load(api.Image{Files: files}); d != nil || err != api.ErrImage {
			t.Errorf("P7.1: Load of %s answers %v, %v, want nil, ErrImage", tell(api.Image{Files: files}), d, err)
		}
	}
}

func TestLoad(t *testing.T) {
	long := strings.Repeat("n", 64)
	for _, row := range []struct {
		files []api.File
		want  string
	}{
		{nil, ""},
		{[]api.File{{Name: "a"}}, "a"},
		{[]api.File{{Name: "a", Data: []byte{}, Bad: []int{}}, {Name: long, Data: times(1, 1)}}, "a; " + long + " 1*1"},
		{[]api.File{{Name: "a"}, {Name: "a\x00"}, {Name: "ab"}, {Name: "é"}, {Name: "\xff"}}, "a; a\x00; ab; é; \xff"},
		{[]api.File{{Name: "a", Data: times(512, 1), Bad: []int{0}}}, "a 512*0 !0"},
		{[]api.File{{Name: "a", Data: times(513, 1), Bad: []int{1}}}, "a 512*1 1*0 !1"},
		{[]api.File{{Name: "a", Data: times(1030, 1), Bad: []int{0, 2}}}, "a 512*0 512*1 6*0 !0 !2"},
		{[]api.File{{Name: "a", Data: times(1030, 1), Bad: []int{0, 1, 2}}}, "a 1030*0 !0 !1 !2"},
	} {
		d := loaded(t, row.files...)
		expectSeen(t, d, row.want)
		expectSafe(t, d, row.want)
		expectCrash(t, d, fates(3, 2, 2, 2), row.want)
		expectWaiting(t, d, 0, 0)
		expectCounts(t, d, 0, false)
	}
}

// TestLoadCreatesInOrder: also of files that an earlier disk created in another one.
func TestLoadCreatesInOrder(t *testing.T) {
	before := disk.New()
	play(t, before, create("c"), create("b"), create("a"), syncNames())
	d := loaded(t, before.Safe().Files...)
	play(t, d, create("0"), add("0", times(1, 4)), add("c", times(1, 3)), add("b", times(1, 2)), add("a", times(1, 1)))
	expectCrash(t, d, fates(1, 1), "0; a 1*1; b; c")
	expectCrash(t, d, fates(1, 0, 1), "0; a; b 1*2; c")
	expectCrash(t, d, fates(1, 0, 0, 1), "0; a; b; c 1*3")
	expectCrash(t, d, fates(1, 0, 0, 0, 1), "0 1*4; a; b; c")
}

// expectLoads: a disk loaded of an image that a disk answered holds just that.
func expectLoads(t *testing.T, x *run, img api.Image) {
	t.Helper()
	d, err := disk.Load(img)
	if err != nil {
		t.Fatalf("P7.3: behind %v Load of %s answers %v", x.calls, tell(img), err)
	}
	f := anyFates(x.r)
	for _, have := range []api.Image{d.Seen(), d.Safe(), d.Crash(f), d.Crash(all(d))} {
		if !same(have, img) {
			t.Fatalf("P7.3: behind %v Load of %s (asked with %v) holds %s", x.calls, tell(img), f, tell(have))
		}
	}
	if sectors, names := d.Waiting(); sectors != 0 || names != 0 {
		t.Fatalf("P7.3: behind %v, and Load, Waiting is %d, %d", x.calls, sectors, names)
	}
	if d.Ops() != 0 || d.Down() {
		t.Fatalf("P7.1: behind %v, and Load, Ops is %d, Down %v", x.calls, d.Ops(), d.Down())
	}
}

func TestLoadOfWhatADiskAnswered(t *testing.T) {
	someRuns(t, 73, 200, func(x *run, _ call, _ error) {
		for _, img := range []api.Image{x.d.Seen(), x.d.Safe(), x.d.Crash(anyFates(x.r)), x.d.Crash(all(x.d))} {
			expectLoads(t, x, img)
		}
	})
}
