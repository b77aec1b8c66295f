package wal_test

import (
	"fmt"
	"math/rand"
	"testing"

	"turnstile/api"
)

func anyOf[T any](r *rand.Rand, list ...T) T { return list[r.Intn(len(list))] }

// anyCall is one that writes; most Drops are of records near the last ones.
func anyCall(r *rand.Rand, next uint64) call {
	switch r.Intn(10) {
	case 0, 1:
		return syncAll()
	case 2:
		return drop(anyOf(r, 0, next-min(next, 1), next-min(next, 2), next-min(next, 5), next-min(next, 9), next+2*uint64(r.Intn(2)), 1<<64-1))
	case 3:
		return add(junk(anyOf(r, 0, 200, 201)))
	}
	return add(fmt.Appendf(nil, "%d/%d", next, r.Intn(1000)))
}

func anyFails(r *rand.Rand) ([]api.Fail, int) {
	var fails []api.Fail
	for range r.Intn(3) {
		fails = append(fails, api.Fail{At: r.Intn(9), Part: anyOf(r, -1, 0, 1, 300, 511, 512, 513)})
	}
	return fails, anyOf(r, 0, 0, 1, 2, 3, 5)
}

func anyFates(r *rand.Rand) api.Fates {
	f := fates(r.Intn(4))
	for range r.Intn(9) {
		f.Sectors = append(f.Sectors, anyOf(r, 0, 1, 1, 1, 2, 7))
	}
	return f
}

// anyImage is a disk of segments, most of which join; with other files now and then.
func anyImage(t *testing.T, r *rand.Rand, first uint64) api.Image {
	t.Helper()
	var files []api.File
	for range r.Intn(5) {
		var counts []int
		size := 0
		for range r.Intn(4) {
			counts = append(counts, 1+r.Intn(3))
			size += counts[len(counts)-1]
		}
		f := fileOf(t, first, counts...)
		switch sectors := len(counts); {
		case r.Intn(8) == 0:
			f = with(f, junk(anyOf(r, 1, 511, 512, 2000)))
		case r.Intn(8) == 0 && sectors > 0:
			f = with(f, nil, r.Intn(sectors))
		}
		files = append(files, f)
		first += uint64(max(size, 1) + anyOf(r, 0, 0, 0, 0, 0, 0, 0, 1))
	}
	if r.Intn(4) == 0 {
		files = append(files, notSegments()[r.Intn(9):][:3]...)
	}
	return imageOf(files...)
}

// run is a pair with what its log was given.
type run struct {
	*pair
	h      *history
	blocks int
}

// begin opens a drawn disk.
func begin(t *testing.T, r *rand.Rand) *run {
	t.Helper()
	for {
		first := anyOf(r, 1, 1, 7, uint64(maxLsn-30))
		x := &run{pair: pairOf(t, anyImage(t, r, first)), blocks: 1 + r.Intn(4)}
		after := first - 1 + uint64(r.Intn(6))
		if records, err := x.open(t, after, x.blocks); err == nil {
			x.h = historyOf(x.w, after, records)
			return x
		}
	}
}

// reopen opens both anew, over the same disk or behind a loss of power, as often as it takes: an Open may be disturbed, too.
func (x *run) reopen(t *testing.T, r *rand.Rand) error {
	t.Helper()
	if x.d.Down() || r.Intn(2) == 0 {
		x.lose(t, anyFates(r))
	} else {
		x.arm(nil, 0)
	}
	if r.Intn(3) == 0 {
		x.arm(anyFails(r))
	}
	x.blocks = 1 + r.Intn(4)
	after := x.h.after + anyOf(r, uint64(0), 0, 0, 1)
	records, err := x.open(t, after, x.blocks)
	switch err {
	case nil:
		x.h.expectFound(t, x.String(), after, records, x.w.Next())
		x.h = historyOf(x.w, after, records)
	case api.ErrIo, api.ErrDown:
		x.h.after = after
		return x.reopen(t, r)
	}
	return err
}

// TestRuns: every answer, and all that the disk has, is the plain one's; and every Open finds what it has to, over losses of power and Opens without one.
func TestRuns(t *testing.T) {
	r := rand.New(rand.NewSource(104))
	seen := map[string]int{}
	for range 400 {
		x := begin(t, r)
		for range 40 {
			if r.Intn(10) == 0 {
				x.arm(anyFails(r))
			}
			c := anyCall(r, x.w.Next())
			err := x.pair.call(t, c)
			number := uint64(0)
			if c.op == "Append" && err == nil {
				number = x.w.Next() - 1
			}
			x.h.note(x.w, c, number, err)
			seen[fmt.Sprint(c.op, " ", err)]++
			if x.d.Down() || r.Intn(15) == 0 || x.w.Sick() && r.Intn(2) == 0 {
				err := x.reopen(t, r)
				seen[fmt.Sprint("Open ", err)]++
				if err != nil {
					break
				}
			}
		}
	}
	var wanted []string
	for _, what := range []string{"Append", "Sync", "Drop"} {
		for _, err := range []error{nil, api.ErrSick, api.ErrIo, api.ErrDown} {
			wanted = append(wanted, fmt.Sprint(what, " ", err))
		}
	}
	for _, kind := range append(wanted, fmt.Sprint("Append ", api.ErrLong), fmt.Sprint("Open ", nil)) {
		if seen[kind] < 30 {
			t.Errorf("%d of the kind %q, want 30 and more", seen[kind], kind)
		}
	}
}
