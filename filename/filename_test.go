package filename_test

import (
	"math"
	"strings"
	"testing"

	"turnstile/filename"
)

// TestThereAndBack: of beginnings of all kinds, also of ones that look like a part of the number.
func TestThereAndBack(t *testing.T) {
	for _, beginning := range []string{"", "a", "log.", "snap.", "0", "ff", "0000000000000001", "\xff"} {
		for _, row := range []struct {
			number uint64
			digits string
		}{
			{0, "0000000000000000"},
			{1, "0000000000000001"},
			{255, "00000000000000ff"},
			{0x123456789abcdef, "0123456789abcdef"},
			{1 << 63, "8000000000000000"},
			{math.MaxUint64, "ffffffffffffffff"},
		} {
			name := filename.Of(beginning, row.number)
			if name != beginning+row.digits {
				t.Errorf("Of(%q, %d) is %q", beginning, row.number, name)
			}
			if number, ok := filename.Number(beginning, name); number != row.number || !ok {
				t.Errorf("Number(%q, %q) is %d, %v", beginning, name, number, ok)
			}
		}
	}
}

// TestOtherNames: wrong beginnings, lengths and digits.
func TestOtherNames(t *testing.T) {
	for _, name := range []string{"", "x", "x.", "x.1", "0000000000000001", "y.0000000000000001", "X.0000000000000001", "x.x.0000000000000001", "x.x.00000000000001",
		"x.000000000000001", "x.00000000000000001", "x.10000000000000000", "x.00000000000000FF", "x.000000000000000g", "x.+000000000000001", "x.-000000000000001",
		"x.0x00000000000001", "x.0_00000000000001", " x.0000000000000001", "x.0000000000000001 ", "x. 000000000000001", "x.000000000000001\x00", "x." + strings.Repeat("0", 1<<20)} {
		if number, ok := filename.Number("x.", name); number != 0 || ok {
			t.Errorf("Number(\"x.\", %.40q) is %d, %v", name, number, ok)
		}
	}
}
