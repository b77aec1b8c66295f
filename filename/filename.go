// Package filename is the form that the names of numbered files have: a beginning, which tells what is in them, and the number in 16 digits of base 16.
package filename

import (
	"strconv"
	"strings"
)

const digits = 16

// Of: the name with this beginning and this number.
func Of(beginning string, number uint64) string {
	text := strconv.FormatUint(number, 16)
	return beginning + strings.Repeat("0", digits-len(text)) + text
}

// Number: the number in a name with this beginning; 0 and false if it is no such name.
func Number(beginning string, name string) (uint64, bool) {
	number, err := strconv.ParseUint(strings.TrimPrefix(name, beginning), 16, 64)
	// A number may be read out of texts of other forms, too: so its name is held against the text.
	if err != nil || Of(beginning, number) != name {
		return 0, false
	}
	return number, true
}
