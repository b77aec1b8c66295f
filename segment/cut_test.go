package segment_test

import (
	"bytes"
	"fmt"
	"testing"

	"turnstile/api"
	"turnstile/disk"
	"turnstile/segment"
)

// notWhole are files of the segment 7 behind whose good blocks something stands.
func notWhole(t *testing.T) []api.File {
	t.Helper()
	all := blocksOf(t, 7)
	var list []api.File
	for blocks := range 4 {
		good := all[: 512*blocks : 512*blocks]
		for _, rest := range [][]byte{junk(1), make([]byte, 1), junk(511), junk(512), make([]byte, 512), junk(513), junk(3000), turned(all[512*min(blocks, 2):], 100), blocksOf(t, 40)} {
			list = append(list, api.File{Name: plainName(7), Data: append(good, rest...)})
		}
		list = append(list, api.File{Name: plainName(7), Data: append(good, junk(700)...), Bad: []int{blocks, blocks + 1}})
		if blocks < 3 {
			list = append(list, api.File{Name: plainName(7), Data: all, Bad: []int{blocks}})
		}
	}
	return list
}

func TestCut(t *testing.T) {
	for i, file := range notWhole(t) {
		at := fmt.Sprintf("file %d, %s", i, tellImage(api.Image{Files: []api.File{file}}))
		d, want := loaded(t, file), loaded(t, file)
		s, found, err := segment.Open(d, 7)
		expectErr(t, "P9.3: Open", err, nil)
		blocks := s.Blocks()
		expectState(t, at, s, 7+uint64(len(found)), blocks, false)
		expectErr(t, "P9.5: Cut of "+at, s.Cut(), nil)
		expectErr(t, "Truncate", want.Truncate(plainName(7), 512*blocks), nil)
		expectState(t, "behind Cut of "+at, s, 7+uint64(len(found)), blocks, true)
		expectDisk(t, "P9.5: Cut of "+at, d, want)
		if d.Ops() != 1 {
			t.Errorf("P9.5: Cut of %s takes %d operations", at, d.Ops())
		}

		expectErr(t, "P9.5: Cut once more", s.Cut(), nil)
		expectDisk(t, "P9.5: Cut once more", d, want)
		left := loaded(t, d.Safe().Files...)
		expectState(t, "behind Cut and a loss of power", opened(t, at, left, 7, found), 7+uint64(len(found)), blocks, true)
		expectErr(t, "P9.6: Append behind Cut", s.Append([]byte("new")), nil)
		expectState(t, "behind Cut and Append", s, 8+uint64(len(found)), blocks+1, true)
		opened(t, at, d, 7, append(found[:len(found):len(found)], []byte("new")))
	}
}

// TestCutOfAWholeOne does nothing: no operation is counted, and no failure met.
func TestCutOfAWholeOne(t *testing.T) {
	d, want := disk.New(), disk.New()
	s, same := created(t, d, 7), created(t, want, 7)
	for i := range 3 {
		d.Arm([]api.Fail{{At: 1}}, 1)
		expectErr(t, "P9.5: Cut of a whole one", s.Cut(), nil)
		d.Arm(nil, 0)
		expectState(t, "a whole one", s, 7+uint64(i), i, true)
		expectDisk(t, "P9.5: Cut of a whole one", d, want)
		expectErr(t, "P9.6: Append", s.Append([]byte("a")), nil)
		expectErr(t, "P9.6: Append", same.Append([]byte("a")), nil)
	}
	whole := opened(t, "a whole one", d, 7, texts("a", "a", "a"))
	d.Arm(nil, 1)
	expectErr(t, "SyncNames", d.SyncNames(), api.ErrDown)
	expectErr(t, "P9.5: Cut of a whole one with the power off", whole.Cut(), nil)
	expectErr(t, "P9.5: Cut of a whole one with the power off", s.Cut(), nil)
}

// TestCutIsSafeAtOnce: what was cut doesn't come back, whatever becomes of what isn't safe; what waits ahead of the cut goes on waiting.
func TestCutIsSafeAtOnce(t *testing.T) {
	d := loaded(t, api.File{Name: plainName(7), Data: blocksOf(t, 7)[:512]})
	expectErr(t, "Append", d.Append(plainName(7), append(blocksOf(t, 7)[512:1024], junk(900)...)), nil)
	s := opened(t, "behind junk", d, 7, ofBlocks[:3])
	expectErr(t, "P9.5: Cut", s.Cut(), nil)
	if sectors, _ := d.Waiting(); sectors != 1 {
		t.Errorf("P9.5: behind Cut %d sectors wait, want 1", sectors)
	}
	for _, f := range someFates() {
		left := d.Crash(f).Files[0]
		if len(left.Data) > 1024 || !bytes.HasPrefix(left.Data, blocksOf(t, 7)[:512]) {
			t.Errorf("P9.5: behind Cut Crash(%v) has %d bytes", f, len(left.Data))
		}
	}
	expectErr(t, "P9.6: Append behind Cut", s.Append(ofBlocks[3:]...), nil)
	expectErr(t, "P9.7: Sync behind Cut", s.Sync(), nil)
	expectState(t, "behind Sync", opened(t, "behind Sync", loaded(t, d.Safe().Files...), 7, ofBlocks), 13, 3, true)
}

// TestCutDisturbed: of a Truncate that fails, or in which the power goes, nothing is done.
func TestCutDisturbed(t *testing.T) {
	for i, file := range notWhole(t) {
		for _, want := range []error{api.ErrIo, api.ErrDown} {
			at := fmt.Sprintf("P9.5: file %d: a Cut that answers %v", i, want)
			d := loaded(t, file)
			s, found, err := segment.Open(d, 7)
			expectErr(t, "P9.3: Open", err, nil)
			blocks := s.Blocks()
			if want == api.ErrIo {
				d.Arm([]api.Fail{{At: 1, Part: 5}}, 0)
			} else {
				d.Arm(nil, 1)
			}
			expectErr(t, at, s.Cut(), want)
			expectSick(t, at, s, d)
			expectState(t, at, s, 7+uint64(len(found)), blocks, false)
			if safe := d.Safe(); !sameImage(safe, loaded(t, file).Safe()) || d.Ops() != 1 {
				t.Errorf("%s: the disk has %s behind %d operations", at, tellImage(safe), d.Ops())
			}
			left := loaded(t, d.Safe().Files...)
			expectState(t, at, opened(t, at, left, 7, found), 7+uint64(len(found)), blocks, false)
		}
	}
}
