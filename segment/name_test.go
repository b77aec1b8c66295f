package segment_test

import (
	"math"
	"math/rand"
	"strings"
	"testing"

	"turnstile/disk"
	"turnstile/segment"
)

// plainFirst goes by the form that the chapter tells: four bytes, 16 digits, and their number.
func plainFirst(name string) (uint64, bool) {
	if len(name) != 20 || name[:4] != "log." {
		return 0, false
	}
	x := uint64(0)
	for _, digit := range []byte(name[4:]) {
		at := strings.IndexByte("0123456789abcdef", digit)
		if at < 0 {
			return 0, false
		}
		x = 16*x + uint64(at)
	}
	if x == 0 || x > maxLsn {
		return 0, false
	}
	return x, true
}

func expectFirst(t *testing.T, name string) {
	t.Helper()
	want, wantOk := plainFirst(name)
	if have, ok := segment.First(name); have != want || ok != wantOk {
		t.Fatalf("P9.1: First(%q) is %d, %v, want %d, %v", name, have, ok, want, wantOk)
	}
}

func expectName(t *testing.T, first uint64) {
	t.Helper()
	if have, want := segment.Name(first), plainName(first); have != want {
		t.Fatalf("P9.1: Name(%d) is %q, want %q", first, have, want)
	}
	expectFirst(t, segment.Name(first))
	within := first >= 1 && first <= maxLsn
	if back, ok := segment.First(segment.Name(first)); ok != within || within && back != first {
		t.Fatalf("P9.1: First(Name(%d)) is %d, %v", first, back, ok)
	}
}

func TestNames(t *testing.T) {
	for _, row := range []struct {
		first uint64
		name  string
		ok    bool
	}{
		{0, "log.0000000000000000", false},
		{1, "log.0000000000000001", true},
		{9, "log.0000000000000009", true},
		{10, "log.000000000000000a", true},
		{15, "log.000000000000000f", true},
		{16, "log.0000000000000010", true},
		{255, "log.00000000000000ff", true},
		{0x123456789abcdef, "log.0123456789abcdef", true},
		{1<<62 - 1, "log.3fffffffffffffff", true},
		{1 << 62, "log.4000000000000000", true},
		{1<<62 + 1, "log.4000000000000001", false},
		{1 << 63, "log.8000000000000000", false},
		{math.MaxUint64 - 1, "log.fffffffffffffffe", false},
		{math.MaxUint64, "log.ffffffffffffffff", false},
	} {
		if have := segment.Name(row.first); have != row.name {
			t.Errorf("P9.1: Name(%d) is %q, want %q", row.first, have, row.name)
		}
		first, ok := segment.First(row.name)
		if ok != row.ok || ok && first != row.first || !ok && first != 0 {
			t.Errorf("P9.1: First(%q) is %d, %v, want %v", row.name, first, ok, row.ok)
		}
	}
}

func TestNamesOfManyNumbers(t *testing.T) {
	for first := range uint64(5000) {
		expectName(t, first)
		expectName(t, maxLsn+2500-first)
		expectName(t, math.MaxUint64-first)
	}
	for bit := range 64 {
		for less := range uint64(20) {
			expectName(t, 1<<bit+less)
			expectName(t, 1<<bit-less)
		}
	}
	r := rand.New(rand.NewSource(91))
	for range 20000 {
		expectName(t, r.Uint64()>>r.Intn(64))
	}
}

// TestNoNames: texts that are nearly a name, written out.
func TestNoNames(t *testing.T) {
	for _, name := range []string{
		"", "l", "log", "log.", "log.1", "log.0", "0000000000000001", ".0000000000000001",
		"log.000000000000001", "log.00000000000000001", "log.00000000000000010", "log.0000000000000001\x00", "log.0000000000000001.",
		"log.00000000000000FF", "log.000000000000000A", "log.000000000000000F", "log.0123456789ABCDEF", "log.0123456789abcdeF",
		"log.000000000000000g", "log.000000000000000/", "log.000000000000000:", "log.000000000000000`", "log.000000000000000@",
		"Log.0000000000000001", "LOG.0000000000000001", "log,0000000000000001", "log-0000000000000001", "log_0000000000000001", "snap.000000000000001", "snap.0000000000000001", "temp",
		" log.0000000000000001", "log.0000000000000001 ", "log. 000000000000001", "log.000000000000001 ", "log.               1", "log .000000000000001", "log.0000000000000001\n", "\tlog.000000000000001",
		"log.+000000000000001", "log.-000000000000001", "log.0x00000000000001", "log.0X00000000000001", "log.000000000000_001", "log.0_00000000000001", "log.0000000000001e+1", "log.000000000000001.",
		"log.log.0000000000000001", "log.log.000000000001", "loglog.0000000000001", "log..000000000000001", "log.000000000000000.",
		"log.000000000000000\xb1", "log.00000000000000é", "log.000000000000000١", "log.000000000000000\x00", "\xffog.0000000000000001",
		"log.10000000000000001", "log.4000000000000001", "log.40000000000000000", "log.7fffffffffffffff", "log.8000000000000001", "log.ffffffffffffffff", "log.fffffffffffffffff",
		strings.Repeat("0", 20), "log." + strings.Repeat("0", 60), "log." + strings.Repeat("0", 1<<20) + "1", strings.Repeat("log.", 1<<18),
	} {
		if first, ok := segment.First(name); first != 0 || ok {
			t.Errorf("P9.1: First(%.60q) is %d, %v", name, first, ok)
		}
		expectFirst(t, name)
	}
}

// TestNearlyNames: each place of some names gets each other byte, is left out, is doubled.
func TestNearlyNames(t *testing.T) {
	for _, first := range []uint64{1, 2, 255, 0x3210abcdef987654, 1<<62 - 1, 1 << 62, 1<<62 + 1, 0, math.MaxUint64} {
		name := plainName(first)
		for at := range len(name) {
			for b := range 256 {
				expectFirst(t, name[:at]+string([]byte{byte(b)})+name[at+1:])
				expectFirst(t, name[:at]+string([]byte{byte(b)})+name[at:])
			}
			expectFirst(t, name[:at]+name[at+1:])
			expectFirst(t, name[:at])
			expectFirst(t, name[at:])
			expectFirst(t, strings.ToUpper(name[:at])+name[at:])
			expectFirst(t, name[:at]+strings.ToUpper(name[at:]))
		}
	}
}

// TestNamesAreFiles: of each first that Create takes a file of that name is made.
func TestNamesAreFiles(t *testing.T) {
	d := disk.New()
	for _, first := range []uint64{1, 2, 10, 255, 256, 1<<62 - 1, 1 << 62} {
		created(t, d, first)
		if _, _, err := d.Read(plainName(first)); err != nil {
			t.Errorf("P9.2: Create(%d) makes no file %q: %v", first, plainName(first), err)
		}
	}
	if names, _ := d.Names(); len(names) != 7 {
		t.Errorf("P9.2: the files are %q", names)
	}
}
