package segment_test

import (
	"fmt"
	"math/rand"
	"testing"

	"turnstile/api"
)

func anyOf[T any](r *rand.Rand, list ...T) T { return list[r.Intn(len(list))] }

func anyCall(r *rand.Rand) call {
	switch r.Intn(10) {
	case 0, 1:
		return syncAll()
	case 2:
		return cut()
	}
	return add(anyRecords(r))
}

func anyFails(r *rand.Rand) ([]api.Fail, int) {
	var fails []api.Fail
	for range r.Intn(3) {
		fails = append(fails, api.Fail{At: r.Intn(9), Part: anyOf(r, -1, 0, 1, 300, 511, 512, 513, 1024, 1200, 5000)})
	}
	return fails, anyOf(r, 0, 0, 1, 2, 3, 5)
}

func anyFates(r *rand.Rand) api.Fates {
	f := fates(r.Intn(3))
	for range r.Intn(9) {
		f.Sectors = append(f.Sectors, anyOf(r, 0, 1, 1, 1, 2, 7))
	}
	return f
}

// someRuns gives pairs behind each of their calls, over losses of power and Opens without one; always the same ones.
func someRuns(t *testing.T, seed int64, count int, look func(*pair, call, error)) {
	t.Helper()
	r := rand.New(rand.NewSource(seed))
	for range count {
		first := anyOf[uint64](r, 1, 7, maxLsn-40)
		x := openPair(t, api.Image{Files: []api.File{anySectors(t, r, first)}}, first)
		_, records, _ := plainOpen(x.p.d, first)
		h := &history{safe: records}
		for range 25 {
			if r.Intn(8) == 0 {
				x.arm(anyFails(r))
			}
			c := anyCall(r)
			err := x.call(t, c)
			h.note(c, err)
			look(x, c, err)
			if loss := x.d.Down() || r.Intn(12) == 0; loss || x.p.sick && r.Intn(2) == 0 {
				x.expectFound(t, r, h, first, loss)
			}
		}
	}
}

// expectFound opens both anew, behind a loss of power or without one.
func (x *pair) expectFound(t *testing.T, r *rand.Rand, h *history, first uint64, loss bool) {
	t.Helper()
	other := x.p.d
	if loss {
		f := anyFates(r)
		x.calls = append(x.calls, fmt.Sprint("a loss with ", f))
		x.d, other = loaded(t, x.d.Crash(f).Files...), loaded(t, other.Crash(f).Files...)
	}
	x.calls = append(x.calls, "Open")
	records := x.reopen(t, other, first)
	h.expectFound(t, x.String(), records)
	h.found(records, loss)
}

// TestRuns: every answer, and all that the disk has, is the plain one's; and every Open finds what it has to.
func TestRuns(t *testing.T) {
	seen := map[string]int{}
	someRuns(t, 94, 400, func(x *pair, c call, err error) {
		what := c.op
		if what == "Append" {
			what += fmt.Sprint(" of ", min(len(c.records), 2))
		}
		seen[fmt.Sprint(what, " ", err)]++
		seen[fmt.Sprint("whole ", x.s.Whole(), ", sick ", x.p.sick)]++
	})
	wanted := []string{"whole true, sick true", "whole true, sick false", "whole false, sick true", "whole false, sick false"}
	for _, what := range []string{"Append of 0", "Append of 1", "Append of 2", "Cut", "Sync"} {
		wanted = append(wanted, fmt.Sprint(what, " ", nil), fmt.Sprint(what, " ", api.ErrSick))
		if what != "Append of 0" {
			wanted = append(wanted, fmt.Sprint(what, " ", api.ErrIo), fmt.Sprint(what, " ", api.ErrDown))
		}
	}
	wanted = append(wanted, fmt.Sprint("Append of 2 ", api.ErrArg), fmt.Sprint("Append of 2 ", api.ErrLong))
	for _, kind := range wanted {
		if seen[kind] < 8 {
			t.Errorf("%d of the kind %q, want 8 and more", seen[kind], kind)
		}
	}
}

// TestEachOperationDisturbed: every operation of a row of all calls fails, or has the power lost in it; what the others do stays the plain one's.
func TestEachOperationDisturbed(t *testing.T) {
	row := []call{cut(), add(sized(200, 200, 200)), syncAll(), add(nil), add(texts("a")), add(sized(201)), cut(), add(texts("b", "c")), syncAll(), syncAll()}
	for _, file := range notWhole(t)[:12] {
		for number := 1; number <= 8; number++ {
			for _, part := range []int{-2, -1, 0, 512, 600, 5000} {
				x := openPair(t, api.Image{Files: []api.File{file}}, 7)
				if part == -2 {
					x.arm(nil, number)
				} else {
					x.arm([]api.Fail{{At: number, Part: part}}, 0)
				}
				for _, c := range row {
					x.call(t, c)
				}
			}
		}
	}
}
