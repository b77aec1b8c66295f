package disk_test

import (
	"bytes"
	"slices"
	"testing"

	"turnstile/api"
)

// stay is which files have to be in every Crash: their names are safe, and neither a sector of them nor a change of names waits.
func (x *run) stay() []api.File {
	var list []api.File
	if len(x.p.changes) > 0 {
		return nil
	}
	for _, f := range x.d.Safe().Files {
		if len(x.p.safe[f.Name].waits) == 0 {
			list = append(list, f)
		}
	}
	return list
}

func fileOf(img api.Image, name string) (api.File, bool) {
	at := slices.IndexFunc(img.Files, func(f api.File) bool { return f.Name == name })
	if at < 0 {
		return api.File{}, false
	}
	return img.Files[at], true
}

func TestWhatIsSafeStays(t *testing.T) {
	stayed := 0
	someRuns(t, 72, 600, func(x *run, _ call, _ error) {
		for _, want := range x.stay() {
			for _, f := range []api.Fates{anyFates(x.r), all(x.d), fates(9, 2, 2, 2, 2, 2, 2, 2, 2)} {
				have, there := fileOf(x.d.Crash(f), want.Name)
				if !there || !bytes.HasPrefix(have.Data, want.Data) || !slices.Equal(have.Bad, want.Bad) {
					t.Fatalf("P7.2: behind %v Crash(%v) has %s (%v), want %s", x.calls, f, tellFile(have), there, tellFile(want))
				}
			}
			stayed++
		}
	})
	if stayed < 1000 {
		t.Errorf("%d files stayed, want 1000 and more", stayed)
	}
}

func TestCrashWithAllKeptIsSeen(t *testing.T) {
	someRuns(t, 74, 1000, func(x *run, _ call, _ error) {
		if x.d.Down() {
			return
		}
		more := all(x.d)
		more.Sectors, more.Names = append(more.Sectors, 1, 2, 0), more.Names+1
		for _, f := range []api.Fates{all(x.d), more} {
			if seen, kept := x.d.Seen(), x.d.Crash(f); !same(seen, kept) {
				t.Fatalf("P7.2: behind %v Crash(%v) is %s, want what is seen, %s", x.calls, f, tell(kept), tell(seen))
			}
		}
	})
}

// TestALogStays: blocks are put behind one another and synced, with every fate at each step.
func TestALogStays(t *testing.T) {
	d := loaded(t)
	play(t, d, create("log"), syncNames())
	var synced []byte
	for i := range 20 {
		block := times(512, byte(1+i))
		play(t, d, add("log", block))
		for _, f := range someFates() {
			left, there := fileOf(d.Crash(f), "log")
			if !there || !bytes.HasPrefix(left.Data, synced) || slices.Min(append(left.Bad, i)) < i {
				t.Fatalf("P7.2: behind Append %d Crash(%v) has %s", i+1, f, tellFile(left))
			}
		}
		play(t, d, sync("log"))
		synced = append(synced, block...)
		for _, f := range someFates() {
			if left, _ := fileOf(d.Crash(f), "log"); !bytes.Equal(left.Data, synced) || len(left.Bad) != 0 {
				t.Fatalf("P7.2: behind Sync %d Crash(%v) has %s", i+1, f, tellFile(left))
			}
		}
	}
}
