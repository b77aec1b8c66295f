package disk_test

import (
	"slices"
	"testing"

	"turnstile/api"
	"turnstile/disk"
)

// scribble writes over all of a list, its spare room too.
func scribble[T byte | int](list []T) {
	list = list[:cap(list)]
	for i := range list {
		list[i] ^= 85
	}
}

func scribbleImage(img api.Image) {
	for _, f := range img.Files {
		scribble(f.Data)
		scribble(f.Bad)
	}
	files := img.Files[:cap(img.Files)]
	for i := range files {
		files[i] = api.File{Name: "scribbled"}
	}
}

// answers are all the images that a disk answers, asked anew.
func answers(d *disk.Disk) []api.Image {
	list := []api.Image{d.Seen(), d.Safe(), d.Crash(all(d))}
	for _, f := range someFates() {
		list = append(list, d.Crash(f))
	}
	return list
}

func expectAnswers(t *testing.T, what string, d *disk.Disk, want []api.Image) {
	t.Helper()
	for i, have := range answers(d) {
		if !same(have, want[i]) {
			t.Fatalf("P7.5: %s answer %d is %s, want %s", what, i, tell(have), tell(want[i]))
		}
	}
}

func copies(list []api.Image) []api.Image {
	var out []api.Image
	for _, img := range list {
		out = append(out, copyOf(img))
	}
	return out
}

func TestAnswersAreNewMemory(t *testing.T) {
	someRuns(t, 75, 25, func(x *run, _ call, _ error) {
		want := copies(answers(x.d))
		for _, img := range answers(x.d) {
			scribbleImage(img)
		}
		expectAnswers(t, "behind what was written over answers,", x.d, want)
		for _, f := range x.d.Seen().Files {
			data, bad, _ := x.d.Read(f.Name)
			scribble(data)
			scribble(bad)
		}
		names, _ := x.d.Names()
		for i := range names[:cap(names)] {
			names[:cap(names)][i] = "scribbled"
		}
		expectSame(t, "P7.5", x.calls, x.d, x.p, nil)
		expectAnswers(t, "behind what was written over Read and Names,", x.d, want)
	})
}

// TestListsOfAnImageShareNothing: of one answer, and of two.
func TestListsOfAnImageShareNothing(t *testing.T) {
	someRuns(t, 76, 25, func(x *run, _ call, _ error) {
		for _, img := range append(answers(x.d), x.d.Seen()) {
			want := copyOf(img)
			for i := range img.Files {
				scribble(img.Files[i].Data)
				img.Files[i].Data = want.Files[i].Data
				scribble(img.Files[i].Bad)
				img.Files[i].Bad = want.Files[i].Bad
				if !same(img, want) {
					t.Fatalf("P7.5: behind %v the lists of an image share memory: %s, want %s", x.calls, tell(img), tell(want))
				}
			}
		}
	})
}

func TestDataIsNotKept(t *testing.T) {
	d := loaded(t, api.File{Name: "a", Data: times(3, 9)}, api.File{Name: "b"})
	room := times(2000, 1)
	play(t, d, add("a", room[:1000]), add("b", room[:700]), add("b", room[700:1400]))
	if !slices.Equal(room, times(2000, 1)) {
		t.Errorf("P7.5: Append writes over its data, or its spare room")
	}
	scribble(room)
	play(t, d, sync("b"), add("b", nil), add("b", []byte{}))
	expectSeen(t, d, "a 3*9 1000*1; b 1400*1")
	expectCrash(t, d, fates(0, 1, 1), "a 3*9 1000*1; b 1400*1")
	d.Arm([]api.Fail{{At: 1, Part: 10}}, 2)
	other := times(20, 2)
	expectErr(t, d, add("a", other), api.ErrIo)
	expectErr(t, d, add("b", other), api.ErrDown)
	if !slices.Equal(other, times(20, 2)) {
		t.Errorf("P7.5: an Append that fails writes over its data")
	}
	scribble(other)
	expectCrash(t, d, fates(0, 1, 1, 1), "a 3*9 1000*1 10*2; b 1400*1 20*2")
}

// TestImagesAreNotKept: neither changed nor kept by Load, their sectors that can't be read neither.
func TestImagesAreNotKept(t *testing.T) {
	room, bads := times(1300, 1), []int{0, 2, 7, 7}
	img := api.Image{Files: []api.File{{Name: "a", Data: room[:1100], Bad: bads[:2]}, {Name: "b", Data: room[1100:1200], Bad: bads[:1]}}}
	want := copyOf(img)
	d, err := disk.Load(img)
	if err != nil {
		t.Fatal(err)
	}
	other, _ := disk.Load(img)
	play(t, d, add("a", times(4, 4)), add("b", times(500, 5)), truncate("b", 512), sync("a"), rename("b", "c"))
	if !same(img, want) || !slices.Equal(room, times(1300, 1)) || !slices.Equal(bads, []int{0, 2, 7, 7}) {
		t.Errorf("P7.5: the image that was loaded is %s now, its room %v", tell(img), bads)
	}
	scribble(room)
	scribble(bads)
	expectSeen(t, other, "a 512*0 512*1 76*0 !0 !2; b 100*0 !0")
	expectSafe(t, other, "a 512*0 512*1 76*0 !0 !2; b 100*0 !0")
	expectSeen(t, d, "a 512*0 512*1 76*0 4*4 !0; c 100*0 412*5")
}

func TestFailsAndFatesAreNotKept(t *testing.T) {
	d := loaded(t, api.File{Name: "a"})
	fails := []api.Fail{{At: 2, Part: 1}, {At: 3, Part: 2}, {At: 9, Part: 9}}
	d.Arm(fails[:2], 0)
	if !slices.Equal(fails, []api.Fail{{At: 2, Part: 1}, {At: 3, Part: 2}, {At: 9, Part: 9}}) {
		t.Errorf("Rule 3: Arm changes its list to %v", fails)
	}
	fails[0], fails[1] = api.Fail{At: 1, Part: 5}, api.Fail{At: 1, Part: 5}
	play(t, d, add("a", times(5, 1)))
	expectErr(t, d, add("a", times(5, 2)), api.ErrIo)
	expectErr(t, d, add("a", times(5, 3)), api.ErrIo)
	expectSeen(t, d, "a 5*1 1*2 2*3")

	list := []int{1, 0, 7}
	play(t, d, add("a", times(1500, 4)))
	d.Crash(api.Fates{Sectors: list[:2], Names: 1})
	if !slices.Equal(list, []int{1, 0, 7}) {
		t.Errorf("Rule 3: Crash changes its list to %v", list)
	}
}

// TestDisksHaveNothingInCommon: two of one image, and two new ones, each with calls of its own.
func TestDisksHaveNothingInCommon(t *testing.T) {
	for _, img := range firstImages() {
		everyRow(2, func(row []call) {
			d, _ := disk.Load(img)
			other, p := played(t, img, nil)
			d.Arm([]api.Fail{{At: 9}}, 8)
			for _, c := range row {
				c.on(d)
			}
			expectSame(t, "P7.5", nil, other, p, []api.Fates{fates(9, 1, 1)})
			for i, c := range slices.Backward(row) {
				if have, want := c.on(other), p.call(c); have != want {
					t.Fatalf("P7.5: call %d, %v, answers %v, want %v", i, c, have, want)
				}
			}
			expectSame(t, "P7.5", row, other, p, []api.Fates{fates(9, 1, 1)})
		})
	}
	a, b := disk.New(), disk.New()
	play(t, a, create("a"), add("a", times(3, 1)), syncNames())
	play(t, b, create("a"), create("b"))
	expectSeen(t, a, "a 3*1")
	expectSeen(t, b, "a; b")
	expectCounts(t, a, 3, false)
	expectCounts(t, b, 2, false)
}
