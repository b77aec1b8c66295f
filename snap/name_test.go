package snap_test

import (
	"math"
	"math/rand"
	"strings"
	"testing"

	"turnstile/snap"
)

func expectLsn(t *testing.T, name string) {
	t.Helper()
	want, wantOk := plainLsn(name)
	if have, ok := snap.Lsn(name); have != want || ok != wantOk {
		t.Fatalf("P15.1: Lsn(%.60q) is %d, %v, want %d, %v", name, have, ok, want, wantOk)
	}
}

func expectName(t *testing.T, lsn uint64) {
	t.Helper()
	if have, want := snap.Name(lsn), plainName(lsn); have != want {
		t.Fatalf("P15.1: Name(%d) is %q, want %q", lsn, have, want)
	}
	expectLsn(t, snap.Name(lsn))
	back, ok := snap.Lsn(snap.Name(lsn))
	if within := lsn <= last; ok != within || within && back != lsn || !within && back != 0 {
		t.Fatalf("P15.1: Lsn(Name(%d)) is %d, %v", lsn, back, ok)
	}
}

func TestNames(t *testing.T) {
	for _, row := range []struct {
		lsn  uint64
		name string
		ok   bool
	}{
		{0, "snap.0000000000000000", true},
		{1, "snap.0000000000000001", true},
		{9, "snap.0000000000000009", true},
		{10, "snap.000000000000000a", true},
		{15, "snap.000000000000000f", true},
		{16, "snap.0000000000000010", true},
		{255, "snap.00000000000000ff", true},
		{0x123456789abcdef, "snap.0123456789abcdef", true},
		{1<<62 - 1, "snap.3fffffffffffffff", true},
		{1 << 62, "snap.4000000000000000", true},
		{1<<62 + 1, "snap.4000000000000001", false},
		{1 << 63, "snap.8000000000000000", false},
		{math.MaxUint64 - 1, "snap.fffffffffffffffe", false},
		{math.MaxUint64, "snap.ffffffffffffffff", false},
	} {
		if have := snap.Name(row.lsn); have != row.name {
			t.Errorf("P15.1: Name(%d) is %q, want %q", row.lsn, have, row.name)
		}
		lsn, ok := snap.Lsn(row.name)
		if ok != row.ok || ok && lsn != row.lsn || !ok && lsn != 0 {
			t.Errorf("P15.1: Lsn(%q) is %d, %v, want %v", row.name, lsn, ok, row.ok)
		}
	}
}

func TestNamesOfManyNumbers(t *testing.T) {
	for lsn := range uint64(5000) {
		expectName(t, lsn)
		expectName(t, last+2500-lsn)
		expectName(t, math.MaxUint64-lsn)
	}
	for bit := range 64 {
		for less := range uint64(20) {
			expectName(t, 1<<bit+less)
			expectName(t, 1<<bit-less)
		}
	}
	r := rand.New(rand.NewSource(151))
	for range 20000 {
		expectName(t, r.Uint64()>>r.Intn(64))
	}
}

// TestNoNames: texts that are nearly a name, written out.
func TestNoNames(t *testing.T) {
	for _, name := range append(otherNames(), []string{
		"", "s", "temp", "0000000000000001", ".0000000000000001", "snap.0", "nap.0000000000000001",
		"snap.000000000000001", "snap.00000000000000001", "snap.00000000000000010", "snap.0000000000000001\x00", "snap.0000000000000001\n",
		"snap.0123456789ABCDEF", "snap.0123456789abcdeF", "snap.000000000000000/", "snap.000000000000000:", "snap.000000000000000`", "snap.000000000000000@",
		"snap_0000000000000001", "snap 0000000000000001", "snap. 000000000000001", "snap.000000000000001 ", "snap.               1", "\tsnap.000000000000001",
		"snap.0X00000000000001", "snap.000000000000_001", "snap.0000000000001e+1", "snap.000000000000001.", "snap..000000000000001", "snapsnap.0000000000001",
		"snap.000000000000000\xb1", "snap.00000000000000é", "snap.000000000000000١", "\xffnap.0000000000000001", "log.00000000000000ff",
		"snap.10000000000000001", "snap.40000000000000000", "snap.7fffffffffffffff", "snap.fffffffffffffffff",
		strings.Repeat("0", 21), "snap." + strings.Repeat("0", 1<<20) + "1", strings.Repeat("snap.", 1<<18),
	}...) {
		if lsn, ok := snap.Lsn(name); lsn != 0 || ok {
			t.Errorf("P15.1: Lsn(%.60q) is %d, %v", name, lsn, ok)
		}
		expectLsn(t, name)
	}
}

// TestNearlyNames: each place of some names gets each other byte, is left out, is doubled.
func TestNearlyNames(t *testing.T) {
	for _, lsn := range []uint64{0, 1, 255, 0x3210abcdef987654, 1<<62 - 1, 1 << 62, 1<<62 + 1, math.MaxUint64} {
		name := plainName(lsn)
		for place := range len(name) {
			for b := range 256 {
				expectLsn(t, name[:place]+string([]byte{byte(b)})+name[place+1:])
				expectLsn(t, name[:place]+string([]byte{byte(b)})+name[place:])
			}
			expectLsn(t, name[:place]+name[place+1:])
			expectLsn(t, name[:place])
			expectLsn(t, name[place:])
			expectLsn(t, strings.ToUpper(name[:place])+name[place:])
			expectLsn(t, name[:place]+strings.ToUpper(name[place:]))
		}
	}
}
