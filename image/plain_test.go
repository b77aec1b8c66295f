package image_test

import (
	"bytes"
	"encoding/binary"
	"fmt"
	"hash/crc32"
	"slices"
	"strings"
	"testing"

	"turnstile/api"
	"turnstile/image"
)

const (
	m    = 1<<64 - 1
	last = 1 << 62 // the greatest number of a record
	full = 4096    // the most keys
)

// ahead is the order of texts as the document writes it: by their bytes as numbers, the shorter first where one begins the other.
func ahead(a, b string) bool {
	for i := 0; i < len(a) && i < len(b); i++ {
		if a[i] != b[i] {
			return a[i] < b[i]
		}
	}
	return len(a) < len(b)
}

// plainEntry is whether policy and level of e are ones, whatever its key.
func plainEntry(e api.Entry) bool {
	p, v := e.Policy, e.Level
	isFlow := p.Kind == 1 && p.Gap >= 1 && p.Limit == 0 && p.Span == 0 && v.Index == 0 && v.Count == 0
	isGrid := p.Kind == 2 && p.Span >= 1 && p.Gap == 0 && p.Slack == 0 && v.Tat == 0
	return isFlow || isGrid
}

// plainValid is when a state is valid, as chapter 13 writes it: it leans on no other layer.
func plainValid(s api.State) bool {
	if s.Lsn > last || len(s.Keys) > full {
		return false
	}
	for i, e := range s.Keys {
		if len(e.Key) < 1 || len(e.Key) > 64 || !plainEntry(e) || i > 0 && !ahead(s.Keys[i-1].Key, e.Key) {
			return false
		}
	}
	return true
}

func same(a, b api.State) bool {
	return a.Lsn == b.Lsn && a.Floor == b.Floor && slices.Equal(a.Keys, b.Keys)
}

func isNothing(s api.State) bool { return same(s, api.State{}) }

func eight(numbers ...uint64) []byte {
	var out []byte
	for _, x := range numbers {
		out = binary.LittleEndian.AppendUint64(out, x)
	}
	return out
}

// laidKey is one key as the table has it, whatever stands in it: a kind of a policy that is none has as many numbers as are told.
func laidKey(key string, kind byte, numbers ...uint64) []byte {
	out := binary.LittleEndian.AppendUint16(nil, uint16(len(key)))
	out = append(append(out, key...), kind)
	return append(out, eight(numbers...)...)
}

// laidEntry is one key as the table has it, of a Flow or of a Grid.
func laidEntry(e api.Entry) []byte {
	if e.Policy.Kind == 1 {
		return laidKey(e.Key, 1, e.Policy.Gap, e.Policy.Slack, e.Level.Tat)
	}
	return laidKey(e.Key, 2, e.Policy.Limit, e.Policy.Span, e.Level.Index, e.Level.Count)
}

// laid is what stands ahead of the sum, with this count whatever keys there are.
func laid(lsn, floor uint64, count uint32, keys ...[]byte) []byte {
	out := append([]byte("TI01"), eight(lsn, floor)...)
	out = binary.LittleEndian.AppendUint32(out, count)
	return append(out, bytes.Join(keys, nil)...)
}

func plainSum(b []byte) uint32 { return crc32.Checksum(b, crc32.MakeTable(crc32.Castagnoli)) }

// sealed is new memory: b with its sum behind it.
func sealed(b []byte) []byte {
	return binary.LittleEndian.AppendUint32(bytes.Clone(b), plainSum(b))
}

// resealed is new memory: b with the sum that fits in the place of its last four bytes.
func resealed(b []byte) []byte { return sealed(b[:len(b)-4]) }

// laidState is how the table has s, valid or not.
func laidState(s api.State) []byte {
	var keys [][]byte
	for _, e := range s.Keys {
		keys = append(keys, laidEntry(e))
	}
	return sealed(laid(s.Lsn, s.Floor, uint32(len(s.Keys)), keys...))
}

func plainEncode(s api.State) ([]byte, error) {
	if !plainValid(s) {
		return nil, api.ErrArg
	}
	return laidState(s), nil
}

// plainDecode goes through the chapter's five errors one by one.
func plainDecode(b []byte) (api.State, error) {
	if len(b) < 28 {
		return api.State{}, api.ErrShort
	}
	if b[0] != 'T' || b[1] != 'I' || b[2] != '0' || b[3] != '1' {
		return api.State{}, api.ErrForm
	}
	end := len(b) - 4
	if binary.LittleEndian.Uint32(b[end:]) != plainSum(b[:end]) {
		return api.State{}, api.ErrSum
	}
	s := api.State{Lsn: binary.LittleEndian.Uint64(b[4:]), Floor: binary.LittleEndian.Uint64(b[12:])}
	count := binary.LittleEndian.Uint32(b[20:])
	if count > full {
		return api.State{}, api.ErrForm
	}
	at := 24
	for range count {
		e, size, err := plainKey(b[at:end])
		if err != nil {
			return api.State{}, err
		}
		s.Keys = append(s.Keys, e)
		at += size
	}
	if at < end || !plainValid(s) {
		return api.State{}, api.ErrForm
	}
	return s, nil
}

// plainKey answers the key at the front of b and how many bytes it has, by where each of its parts ends.
func plainKey(b []byte) (api.Entry, int, error) {
	if len(b) < 2 {
		return api.Entry{}, 0, api.ErrShort
	}
	textEnd := 2 + int(b[0]) + 256*int(b[1])
	if len(b) < textEnd+1 {
		return api.Entry{}, 0, api.ErrShort
	}
	if kind := b[textEnd]; kind != 1 && kind != 2 {
		return api.Entry{}, 0, api.ErrForm
	}
	count := 2 + int(b[textEnd])
	size := textEnd + 1 + 8*count
	if len(b) < size {
		return api.Entry{}, 0, api.ErrShort
	}
	var numbers [4]uint64
	for i := range count {
		numbers[i] = binary.LittleEndian.Uint64(b[textEnd+1+8*i:])
	}
	e := entry(string(b[2:textEnd]), flow(numbers[0], numbers[1]), tat(numbers[2]))
	if b[textEnd] == 2 {
		e.Policy, e.Level = grid(numbers[0], numbers[1]), used(numbers[2], numbers[3])
	}
	return e, size, nil
}

// expectState holds Encode of s against the plain reckoning, and Decode against what Encode answers; it answers Encode's error.
func expectState(t *testing.T, what string, s api.State) error {
	t.Helper()
	want, wantErr := plainEncode(s)
	b, err := image.Encode(s)
	if !bytes.Equal(b, want) || err != wantErr {
		t.Fatalf("P14.1: %s: Encode(%s) is %s, %v, want %s, %v", what, tell(s), tellBytes(b), err, tellBytes(want), wantErr)
	}
	if err != nil {
		return err
	}
	if back, err := image.Decode(b); !same(back, s) || err != nil {
		t.Fatalf("P14.1: %s: Decode(%s) is %s, %v, want %s", what, tellBytes(b), tell(back), err, tell(s))
	}
	return nil
}

// expectBytes holds Decode of b against the plain reckoning, and Encode against what Decode answers; it answers Decode's error.
func expectBytes(t *testing.T, what string, b []byte) error {
	t.Helper()
	want, wantErr := plainDecode(b)
	s, err := image.Decode(b)
	if !same(s, want) || err != wantErr {
		t.Fatalf("P14.2: %s: Decode(%s) is %s, %v, want %s, %v", what, tellBytes(b), tell(s), err, tell(want), wantErr)
	}
	if err != nil {
		return err
	}
	if back, err := image.Encode(s); !bytes.Equal(back, b) || err != nil {
		t.Fatalf("P14.1: %s: Encode of what Decode answers to %s is %s, %v", what, tellBytes(b), tellBytes(back), err)
	}
	return nil
}

// expectFault: Decode of b answers this error and nothing else, and so does the plain reckoning.
func expectFault(t *testing.T, what string, b []byte, want error) {
	t.Helper()
	if s, err := image.Decode(b); !isNothing(s) || err != want {
		t.Fatalf("P14.2: %s: Decode(%s) is %s, %v, want %v", what, tellBytes(b), tell(s), err, want)
	}
	expectBytes(t, what, b)
}

// expectRefused: Encode of s answers ErrArg and nothing else, and so does the plain reckoning.
func expectRefused(t *testing.T, what string, s api.State) {
	t.Helper()
	if b, err := image.Encode(s); len(b) != 0 || err != api.ErrArg {
		t.Fatalf("P14.1: %s: Encode(%s) is %s, %v, want ErrArg", what, tell(s), tellBytes(b), err)
	}
	expectState(t, what, s)
}

// tell is s in a message, many keys by their number.
func tell(s api.State) string {
	if len(s.Keys) > 12 {
		return fmt.Sprintf("{Lsn %d, Floor %d, %d keys}", s.Lsn, s.Floor, len(s.Keys))
	}
	parts := []string{fmt.Sprintf("Lsn %d, Floor %d", s.Lsn, s.Floor)}
	for _, e := range s.Keys {
		key := fmt.Sprintf("%+q", e.Key)
		if len(e.Key) > 70 {
			key = fmt.Sprintf("%d bytes", len(e.Key))
		}
		parts = append(parts, fmt.Sprintf("%s %v %v", key, e.Policy, e.Level))
	}
	return "{" + strings.Join(parts, "; ") + "}"
}

func tellBytes(b []byte) string {
	if len(b) > 400 {
		return fmt.Sprintf("%x.. (%d bytes)", b[:100], len(b))
	}
	return fmt.Sprintf("%x", b)
}
