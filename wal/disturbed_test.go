package wal_test

import (
	"fmt"
	"testing"

	"turnstile/api"
	"turnstile/disk"
	"turnstile/wal"
)

// start is what an Open answers.
type start struct {
	next    uint64
	records [][]byte
	err     error
}

func startOf(d *disk.Disk, after uint64) start {
	w, records, err := wal.Open(d, after, 2)
	return start{w.Next(), records, err}
}

func (s start) String() string {
	return fmt.Sprintf("Next %d, %s, %v", s.next, tellRecords(s.records), s.err)
}

func (s start) same(o start) bool {
	return s.next == o.next && s.err == o.err && sameRecords(s.records, o.records)
}

// everyDisturbance gives the disks that a loss of power leaves behind an Open in each of whose operations the power goes, or which fails.
func everyDisturbance(t *testing.T, img api.Image, after uint64, want start, do func(at string, left api.Image)) {
	t.Helper()
	for number := 1; ; number++ {
		met := false
		for _, fails := range [][]api.Fail{nil, {{At: number}}} {
			cut := number
			if fails != nil {
				cut = 0
			}
			at := fmt.Sprintf("Open(%d) of %s, operation %d disturbed, %v", after, tellImage(img), number, fails)
			d := loaded(t, img)
			d.Arm(fails, cut)
			have := startOf(d, after)
			met = met || d.Ops() >= number
			if disturbed := have.err == api.ErrDown || have.err == api.ErrIo; disturbed != (d.Ops() >= number) || !disturbed && !have.same(want) {
				t.Fatalf("P10.1: %s answers %s, behind %d operations", at, have, d.Ops())
			}
			everyFates(d, func(f api.Fates) { do(fmt.Sprintf("%s, a loss with %v", at, f), d.Crash(f)) })
		}
		if !met {
			return
		}
	}
}

// disturbedRows are the rows of segments whose starts are disturbed; some of them have other files, too.
func disturbedRows(t *testing.T) [][]api.File {
	rows := [][]api.File{nil, {{Name: "a", Data: junk(3)}}, {{Name: plainName(0)}}, {fileOf(t, 1, 1), fileOf(t, 2, 1), with(fileOf(t, 3, 1), junk(3)), fileOf(t, 4, 1), fileOf(t, 5, 1), fileOf(t, 6, 1), fileOf(t, 9, 2)}}
	for size := 1; size <= 2; size++ {
		everyRow(t, size, func(files []api.File) { rows = append(rows, files) })
	}
	return rows
}

// TestADisturbedOpenFindsTheSame: the next Open answers as if there had been none, whatever became of what waited.
func TestADisturbedOpenFindsTheSame(t *testing.T) {
	opens := 0
	for _, files := range disturbedRows(t) {
		img := imageOf(files...)
		for _, after := range []uint64{0, 4, 6, 8, 30, maxLsn} {
			want := startOf(loaded(t, img), after)
			everyDisturbance(t, img, after, want, func(at string, left api.Image) {
				opens++
				if have := startOf(loaded(t, left), after); !have.same(want) {
					t.Fatalf("P10.3: %s, Open: %s, want %s", at, have, want)
				}
			})
		}
	}
	if opens < 10000 {
		t.Errorf("there were %d Opens alone", opens)
	}
}

// TestDisturbedOpensOneBehindTheOther: every pair of disturbances.
func TestDisturbedOpensOneBehindTheOther(t *testing.T) {
	for i, files := range disturbedRows(t) {
		img := imageOf(files...)
		after := []uint64{4, 7, 30}[i%3]
		want := startOf(loaded(t, img), after)
		everyDisturbance(t, img, after, want, func(at string, left api.Image) {
			everyDisturbance(t, left, after, want, func(again string, left api.Image) {
				if have := startOf(loaded(t, left), after); !have.same(want) {
					t.Fatalf("P10.3: %s, then %s, Open: %s, want %s", at, again, have, want)
				}
			})
		})
	}
}

// TestAFailedOpenWithoutALoss: where an operation fails and the power stays, the next Open over the same disk answers as if it had not.
func TestAFailedOpenWithoutALoss(t *testing.T) {
	for _, files := range disturbedRows(t) {
		for _, after := range []uint64{4, 6, 30} {
			want := startOf(loaded(t, imageOf(files...)), after)
			d := loaded(t, imageOf(files...))
			var have start
			for number := 1; ; number++ {
				d.Arm([]api.Fail{{At: number}}, 0)
				if have = startOf(d, after); have.err != api.ErrIo {
					break
				}
			}
			if !have.same(want) {
				t.Fatalf("P10.3: Open(%d) of %s behind those that failed: %s, want %s", after, tellImage(imageOf(files...)), have, want)
			}
		}
	}
}

// TestOpenTwice: behind an Open that answered and any loss of power the same log is found.
func TestOpenTwice(t *testing.T) {
	for _, files := range disturbedRows(t) {
		for _, after := range []uint64{4, 6, 30} {
			for _, blocks := range []int{1, 3} {
				d := loaded(t, imageOf(files...))
				w, records, err := wal.Open(d, after, blocks)
				if err != nil {
					continue
				}
				at := fmt.Sprintf("Open(%d, %d) of %s, again", after, blocks, tellImage(imageOf(files...)))
				for _, f := range someFates() {
					again := opened(t, at, loaded(t, d.Crash(f)), after, blocks, records)
					expectLog(t, at, again, w.Next(), w.Safe(), false, w.Segments()...)
				}
				again := opened(t, at, d, after, blocks, records)
				expectLog(t, at, again, w.Next(), w.Safe(), false, w.Segments()...)
			}
		}
	}
}
