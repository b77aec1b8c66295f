package segment

import (
	"turnstile/api"
	"turnstile/filename"
)

const beginning = "log."

// Name: the name of the segment whose first record has this number.
func Name(first uint64) string {
	return filename.Of(beginning, first)
}

// First: the number in a segment's name; 0 and false if it is none.
func First(name string) (uint64, bool) {
	first, ok := filename.Number(beginning, name)
	if !ok || !isNumber(first) {
		return 0, false
	}
	return first, true
}

// isNumber is whether a record may have this number.
func isNumber(n uint64) bool {
	return n > 0 && n <= api.MaxLsn
}
