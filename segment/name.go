package segment

import (
	"strconv"
	"strings"

	"turnstile/api"
)

const (
	beginning = "log."
	digits    = 16 // behind the beginning
)

// Name: the name of the segment whose first record has this number.
func Name(first uint64) string {
	number := strconv.FormatUint(first, 16)
	return beginning + strings.Repeat("0", digits-len(number)) + number
}

// First: the number in a segment's name; 0 and false if it is none.
func First(name string) (uint64, bool) {
	first, err := strconv.ParseUint(strings.TrimPrefix(name, beginning), 16, 64)
	// A number may be read out of texts of other forms, too: so its name is held against the text.
	if err != nil || !isNumber(first) || Name(first) != name {
		return 0, false
	}
	return first, true
}

// isNumber is whether a record may have this number.
func isNumber(n uint64) bool {
	return n > 0 && n <= api.MaxLsn
}
