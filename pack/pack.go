// Package pack is layer 1: numbers and texts in bytes. See shared/doc/01-pack.md.
package pack

import "turnstile/api"

const (
	mostText   = 65535 // bytes of a text, since its length stands in two bytes
	mostGroups = 10    // groups of seven bits that a number of 64 bits takes
	lastGroup  = 1     // the greatest tenth group: the nine ahead of it hold 63 bits
)

// PutU16: b with x behind it, the lowest byte first; new memory.
func PutU16(b []byte, x uint16) []byte { return putWhole(b, uint64(x), 2) }

// PutU32: likewise, four bytes.
func PutU32(b []byte, x uint32) []byte { return putWhole(b, uint64(x), 4) }

// PutU64: likewise, eight bytes.
func PutU64(b []byte, x uint64) []byte { return putWhole(b, x, 8) }

// PutText: b with s behind it: its length in two bytes, its bytes; ErrLong.
func PutText(b []byte, s string) ([]byte, error) {
	if len(s) > mostText {
		return nil, api.ErrLong
	}
	out := copyWithRoom(b, 2+len(s))
	out = appendWhole(out, uint64(len(s)), 2)
	return append(out, s...), nil
}

// PutNumber: b with x behind it in groups of seven bits, the lowest first.
func PutNumber(b []byte, x uint64) []byte {
	out := copyWithRoom(b, mostGroups)
	for x >= 128 {
		out = append(out, byte(x)|128)
		x >>= 7
	}
	return append(out, byte(x))
}

func putWhole(b []byte, x uint64, size int) []byte {
	return appendWhole(copyWithRoom(b, size), x, size)
}

// copyWithRoom answers new memory even where b has room enough: an append to b itself would write into that room.
func copyWithRoom(b []byte, room int) []byte {
	out := make([]byte, len(b), len(b)+room)
	copy(out, b)
	return out
}

func appendWhole(out []byte, x uint64, size int) []byte {
	for range size {
		out = append(out, byte(x))
		x >>= 8
	}
	return out
}
