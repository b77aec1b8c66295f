package disk_test

import (
	"testing"

	"turnstile/api"
	"turnstile/disk"
)

// picture is all that a disk answers, but its counts.
type picture struct {
	seen    api.Image
	crashes []api.Image
	sectors int
	changes int
	down    bool
}

func pictureOf(d *disk.Disk) picture {
	p := picture{seen: d.Seen(), down: d.Down()}
	for _, f := range append(someFates(), all(d)) {
		p.crashes = append(p.crashes, d.Crash(f))
	}
	p.sectors, p.changes = d.Waiting()
	return p
}

func (p picture) same(q picture) bool {
	if !same(p.seen, q.seen) || p.sectors != q.sectors || p.changes != q.changes || p.down != q.down {
		return false
	}
	for i := range p.crashes {
		if !same(p.crashes[i], q.crashes[i]) {
			return false
		}
	}
	return true
}

// disturbed are calls that are refused, and others.
func disturbed() []call {
	list := []call{create(""), create("x"), sync("x"), rename("x", "b"), rename("a", ""), remove("x"), truncate("a", -512), truncate("a", 7), truncate("a", 1<<20), add("x", times(9, 9))}
	return append(list, fewCalls()...)
}

// TestRefusedAndFailedChangeNothing: behind rows of calls each of the others, refused or failed.
func TestRefusedAndFailedChangeNothing(t *testing.T) {
	for _, img := range firstImages() {
		everyRow(2, func(row []call) {
			for _, c := range disturbed() {
				d, _ := played(t, img, row)
				ahead := pictureOf(d)
				if c.on(d) != nil && !pictureOf(d).same(ahead) {
					t.Fatalf("P7.4: behind %v %v is refused, and changes %s to %s", row, c, tell(ahead.seen), tell(d.Seen()))
				}
				d, _ = played(t, img, row)
				d.Arm([]api.Fail{{At: 1}}, 0)
				if err := c.on(d); err != api.ErrIo || !pictureOf(d).same(ahead) {
					t.Fatalf("P7.4: behind %v %v fails (%v), and changes %s to %s", row, c, err, tell(ahead.seen), tell(d.Seen()))
				}
			}
		})
	}
}

// TestAFailedAppendIsOneOfItsPart: it leaves what an Append of the first Part bytes leaves.
func TestAFailedAppendIsOneOfItsPart(t *testing.T) {
	for _, img := range firstImages() {
		everyRow(2, func(row []call) {
			for _, part := range []int{-1, 0, 1, 508, 509, 510, 600, 700} {
				c := add("a", risingBytes(600))
				d, _ := played(t, img, row)
				d.Arm([]api.Fail{{At: 1, Part: part}}, 0)
				err := c.on(d)
				c.data = c.data[:min(max(part, 0), 600)]
				other, _ := played(t, img, row)
				c.on(other)
				if err != api.ErrIo || !pictureOf(d).same(pictureOf(other)) {
					t.Fatalf("P7.4: behind %v an Append that fails (%v) behind %d bytes leaves %s, want %s", row, err, part, tell(d.Seen()), tell(other.Seen()))
				}
			}
		})
	}
}

// risingBytes rises by one from byte to byte.
func risingBytes(size int) []byte {
	data := make([]byte, size)
	for i := range data {
		data[i] = byte(i)
	}
	return data
}

// TestTheCountsOfRefusedAndFailed: they count, for Ops and for what is armed.
func TestTheCountsOfRefusedAndFailed(t *testing.T) {
	for _, c := range disturbed() {
		d := loaded(t, firstImages()[1].Files...)
		d.Arm([]api.Fail{{At: 2}}, 4)
		c.on(d)
		expectCounts(t, d, 1, false)
		expectErr(t, d, c, api.ErrIo)
		expectCounts(t, d, 2, false)
		if err := c.on(d); err == api.ErrIo || err == api.ErrDown {
			t.Errorf("P7.4: the third operation, %v, answers %v", c, err)
		}
		expectErr(t, d, c, api.ErrDown)
		expectCounts(t, d, 4, true)
		expectErr(t, d, c, api.ErrDown)
		expectCounts(t, d, 4, true)
	}
}
