package disk_test

import (
	"fmt"
	"math/rand"
	"strings"
	"testing"

	"turnstile/api"
	"turnstile/disk"
)

func anyOf[T any](r *rand.Rand, list ...T) T { return list[r.Intn(len(list))] }

func anyName(r *rand.Rand) string {
	if r.Intn(12) == 0 {
		return anyOf(r, "", strings.Repeat("n", 64), strings.Repeat("n", 65))
	}
	return anyOf(r, "a", "b", "c", "d")
}

// anyBytes has no zero, so that bytes that are lost show.
func anyBytes(r *rand.Rand, size int) []byte {
	data := make([]byte, size)
	for i := range data {
		data[i] = byte(1 + r.Intn(255))
	}
	return data
}

// anySize ends often at, just ahead of or just behind a sector's end.
func anySize(r *rand.Rand, ahead int) int {
	if r.Intn(2) == 0 {
		return r.Intn(20)
	}
	end := 512 * (1 + r.Intn(2))
	return max(0, end-ahead%512+anyOf(r, -1, 0, 0, 1))
}

func anyArm(r *rand.Rand) call {
	c := arm(anyOf(r, -1, 0, 0, 1, 2, 3, 5, 9))
	for range r.Intn(4) {
		c.fails = append(c.fails, api.Fail{At: r.Intn(8) - 1, Part: anyOf(r, -1, 0, 1, 2, 10, 600, 5000)})
	}
	return c
}

func anyFates(r *rand.Rand) api.Fates {
	f := fates(r.Intn(9) - 1)
	for range r.Intn(10) {
		f.Sectors = append(f.Sectors, anyOf(r, 0, 1, 2, 0, 1, 2, -1, 3, 257))
	}
	return f
}

func anyCall(r *rand.Rand, p *plain) call {
	name, size := anyName(r), 0
	if f := p.seen[name]; f != nil {
		size = len(f.seen)
	}
	switch r.Intn(20) {
	case 0, 1:
		return create(name)
	case 2, 3, 4:
		return sync(name)
	case 5, 6:
		n := 512*(r.Intn(size/512+3)-1) + anyOf(r, 0, 0, 0, 0, -1, 1)
		return truncate(name, n)
	case 7, 8, 9:
		return rename(name, anyName(r))
	case 10:
		return remove(name)
	case 11, 12:
		return syncNames()
	case 13:
		return anyArm(r)
	}
	return add(name, anyBytes(r, anySize(r, size)))
}

func anyImage(r *rand.Rand) api.Image {
	var img api.Image
	for _, name := range []string{"a", "b", "c", "d", strings.Repeat("n", 64)} {
		if r.Intn(3) > 0 {
			continue
		}
		f := api.File{Name: name, Data: anyBytes(r, anySize(r, 0))}
		for i := 0; 512*i < len(f.Data); i++ {
			if r.Intn(4) == 0 {
				f.Bad = append(f.Bad, i)
			}
		}
		img.Files = append(img.Files, f)
	}
	return img
}

// run is a disk and the plain one beside it, in the midst of calls.
type run struct {
	r     *rand.Rand
	calls []call
	d     *disk.Disk
	p     *plain
}

// someRuns gives runs behind each of their calls, always the same ones; behind a loss of power it goes on with what is left.
func someRuns(t *testing.T, seed int64, count int, look func(*run, call, error)) {
	t.Helper()
	r := rand.New(rand.NewSource(seed))
	for range count {
		x := &run{r: r}
		x.begin(t, anyImage(r))
		for range 40 {
			c := anyCall(r, x.p)
			x.calls = append(x.calls, c)
			have, want := c.on(x.d), x.p.call(c)
			if have != want {
				t.Fatalf("P7.1: of %v the last one answers %v, want %v", x.calls, have, want)
			}
			look(x, c, have)
			if x.p.down && r.Intn(3) == 0 {
				x.begin(t, x.d.Crash(anyFates(r)))
			}
		}
	}
}

func (x *run) begin(t *testing.T, img api.Image) {
	t.Helper()
	x.d, x.p = played(t, img, nil)
	x.calls = nil
}

func TestRuns(t *testing.T) {
	someRuns(t, 71, 800, func(x *run, _ call, _ error) {
		expectSame(t, "P7.1", x.calls, x.d, x.p, []api.Fates{anyFates(x.r), anyFates(x.r), all(x.d)})
	})
}

// TestRunsAreOfAllKinds holds the drawn runs to what the other tests need of them.
func TestRunsAreOfAllKinds(t *testing.T) {
	seen := map[string]int{}
	someRuns(t, 71, 1000, func(x *run, c call, err error) {
		seen[fmt.Sprint(c.op, " ", err)]++
		sectors, changes := x.d.Waiting()
		seen[fmt.Sprint("waiting ", min(sectors, 3), " ", min(changes, 3))]++
		for _, f := range x.p.seen {
			seen[fmt.Sprint("bad as seen ", min(len(f.seenBad), 1), " as safe ", min(len(f.safeBad), 1))]++
		}
	})
	wanted := []string{"Arm <nil>", "Create " + api.ErrArg.Error(), "Create " + api.ErrThere.Error(), "Rename " + api.ErrArg.Error(),
		"Truncate " + api.ErrArg.Error(), "bad as seen 0 as safe 1", "bad as seen 1 as safe 1"}
	for _, op := range []string{"Create", "Append", "Sync", "Truncate", "Rename", "Remove", "SyncNames"} {
		for _, err := range []error{nil, api.ErrIo, api.ErrDown} {
			wanted = append(wanted, fmt.Sprint(op, " ", err))
		}
	}
	for _, op := range []string{"Append", "Sync", "Truncate", "Rename", "Remove"} {
		wanted = append(wanted, op+" "+api.ErrGone.Error())
	}
	for i := range 16 {
		wanted = append(wanted, fmt.Sprint("waiting ", i/4, " ", i%4))
	}
	for _, kind := range wanted {
		if seen[kind] < 20 {
			t.Errorf("%d of the kind %q, want 20 and more", seen[kind], kind)
		}
	}
}

// fewCalls are the letters of which all short rows of calls are made.
func fewCalls() []call {
	return []call{
		create("a"), create("b"),
		add("a", times(3, 1)), add("a", times(600, 2)), add("b", times(509, 3)),
		sync("a"), sync("b"),
		truncate("a", 0), truncate("a", 512),
		rename("a", "b"), rename("b", "a"),
		remove("a"), remove("b"),
		syncNames(),
	}
}

// everyRow gives all rows of so many calls; a row is written anew for the next one.
func everyRow(size int, do func([]call)) {
	row := make([]call, size)
	var fill func(at int)
	fill = func(at int) {
		if at == size {
			do(row)
			return
		}
		for _, c := range fewCalls() {
			row[at] = c
			fill(at + 1)
		}
	}
	fill(0)
}

func firstImages() []api.Image {
	return []api.Image{
		{},
		{Files: []api.File{{Name: "a", Data: times(514, 8), Bad: []int{1}}, {Name: "b", Data: times(3, 9), Bad: []int{0}}}},
	}
}

func TestEveryShortRow(t *testing.T) {
	list := []api.Fates{fates(1, 1, 0, 2), fates(2, 0, 1, 1), fates(9, 2, 2, 1, 1), fates(0, 1, 1, 1)}
	for _, img := range firstImages() {
		for size := range 5 {
			everyRow(size, func(row []call) {
				d, p := played(t, img, row)
				expectSame(t, "P7.1", row, d, p, list[size%4:size%4+1])
			})
		}
	}
}

// TestEveryShortRowDisturbed: each of the operations of each row fails, or has the power lost in it.
func TestEveryShortRowDisturbed(t *testing.T) {
	list := []api.Fates{fates(1, 1, 0, 2), fates(9, 0, 1, 1), fates(9, 1, 1, 1, 1)}
	for _, img := range firstImages() {
		everyRow(3, func(row []call) {
			for at := 1; at <= 3; at++ {
				for _, a := range []call{arm(at), arm(0, api.Fail{At: at, Part: 2}), arm(at, api.Fail{At: at - 1, Part: 515})} {
					calls := append([]call{a}, row...)
					d, p := played(t, img, calls)
					expectSame(t, "P7.1", calls, d, p, list[at-1:at])
				}
			}
		})
	}
}
