package snap_test

import (
	"testing"

	"turnstile/api"
	"turnstile/disk"
	"turnstile/snap"
)

// TestANilDisk: ErrNil, ahead of what else there is to say.
func TestANilDisk(t *testing.T) {
	for _, s := range append(smallStates(), wrongStates()...) {
		expectErr(t, "Rule 5: Write of "+tell(s)+" to a nil disk", snap.Write(nil, s), api.ErrNil)
	}
	for _, keep := range []uint64{0, 1, last, m} {
		expectErr(t, "Rule 5: Clean of a nil disk", snap.Clean(nil, keep), api.ErrNil)
	}
	if s, err := snap.Newest(nil); !same(s, api.State{}) || err != api.ErrNil {
		t.Errorf("Rule 5: Newest of a nil disk is %s, %v", tell(s), err)
	}
}

// TestWrongStates: ErrArg, and no operation; also where the power is off, or an operation would fail.
func TestWrongStates(t *testing.T) {
	for _, s := range wrongStates() {
		for kind := range 4 {
			x := pairOf(t, fileOf(t, at(5)), api.File{Name: "temp", Data: []byte("begun")})
			switch kind {
			case 1:
				x.call(t, arm(1))
			case 2:
				x.call(t, arm(0, api.Fail{At: 1}))
			case 3:
				x.call(t, arm(1))
				x.call(t, ofDisk(syncNames()))
			}
			ops := x.d.Ops()
			_, err := x.call(t, write(s))
			expectErr(t, "P15.2: "+x.String(), err, api.ErrArg)
			if x.d.Ops() != ops {
				t.Errorf("P15.2: %s counts %d operations, want none", x, x.d.Ops()-ops)
			}
		}
	}
}

// TestThePowerIsOff: ErrDown, and no operation; beside it Newest has the state of zeros.
func TestThePowerIsOff(t *testing.T) {
	for _, files := range [][]api.File{nil, {fileOf(t, at(5))}, {fileOf(t, at(5)), {Name: "temp"}}} {
		for _, c := range []call{write(at(7)), write(api.State{}), newest(), clean(0), clean(7)} {
			x := pairOf(t, files...)
			x.call(t, arm(1))
			x.call(t, ofDisk(syncNames()))
			s, err := x.call(t, c)
			expectErr(t, "P15.2, P15.3, P15.4: "+x.String(), err, api.ErrDown)
			if !same(s, api.State{}) || x.d.Ops() != 1 {
				t.Errorf("Rule 1: %s answers %s, and counts %d operations", x, tell(s), x.d.Ops()-1)
			}
		}
	}
}

// TestEachCallAtAnyArgument: whatever is handed in, each call ends, and none panics.
func TestEachCallAtAnyArgument(t *testing.T) {
	for _, s := range append(allStates(), wrongStates()...) {
		for _, d := range []*disk.Disk{nil, disk.New(), loaded(t, badFiles(t, 5)[0], api.File{Name: "temp"})} {
			snap.Write(d, s)
			snap.Newest(d)
			snap.Clean(d, s.Lsn)
			snap.Name(s.Lsn)
			snap.Lsn(snap.Name(s.Lsn))
		}
	}
}
