package record_test

import (
	"bytes"
	"fmt"
	"math/rand"
	"strings"
	"testing"

	"turnstile/api"
	"turnstile/record"
)

// expectFault: Decode of b answers this error and nothing else, and so does the plain reckoning.
func expectFault(t *testing.T, at string, b []byte, want error) {
	t.Helper()
	if r, err := record.Decode(b); r != (api.Record{}) || err != want {
		t.Errorf("P11.3: %s: Decode(%x) is %s, %v, want %v", at, b, tell(r), err, want)
	}
	expectBytes(t, b)
}

func sampleBytes() [][]byte {
	var list [][]byte
	for _, r := range samples() {
		b, _ := plainEncode(r)
		list = append(list, b)
	}
	return list
}

func TestRecordsCutAtEveryPlace(t *testing.T) {
	for _, b := range sampleBytes() {
		for cut := range b {
			expectFault(t, fmt.Sprint("cut at ", cut), b[:cut:cut], api.ErrShort)
			expectFault(t, fmt.Sprint("cut at ", cut, ", the rest in the spare room"), b[:cut], api.ErrShort)
		}
	}
}

func TestRecordsWithBytesBehindThem(t *testing.T) {
	for _, b := range sampleBytes() {
		for x := range 256 {
			expectFault(t, "one more byte", append(bytes.Clone(b), byte(x)), api.ErrForm)
		}
		for _, more := range []int{2, 8, 12, 88, 1000, 66000} {
			expectFault(t, fmt.Sprint(more, " more bytes"), append(bytes.Clone(b), make([]byte, more)...), api.ErrForm)
		}
		expectFault(t, "twice", append(bytes.Clone(b), b...), api.ErrForm)
	}
}

// TestOtherKinds: a kind that is none is told as soon as its byte is read, however much is behind it.
func TestOtherKinds(t *testing.T) {
	for _, b := range sampleBytes() {
		for kind := range 256 {
			other := bytes.Clone(b)
			other[0] = byte(kind)
			for _, cut := range []int{1, 2, 9, 10, 11, 12, len(b) - 1, len(b)} {
				if kind < 1 || kind > 3 {
					expectFault(t, "another kind", other[:cut], api.ErrForm)
				}
				expectBytes(t, other[:cut])
			}
		}
	}
}

// TestOtherKindsOfPolicies: a policy's kind that is none is told behind the last field alone.
func TestOtherKindsOfPolicies(t *testing.T) {
	for _, p := range []api.Policy{flow(10, 3), grid(3, 10), flow(1, 0), grid(0, 1), flow(m, m), grid(m, m)} {
		for _, key := range goodKeys() {
			b, _ := plainEncode(define(5, key, p))
			at := 11 + len(key)
			for kind := range 256 {
				b[at] = byte(kind)
				for cut := range len(b) - at {
					expectFault(t, "another policy's kind, cut", b[:at+cut], api.ErrShort)
				}
				if kind != 1 && kind != 2 {
					expectFault(t, "another policy's kind", b, api.ErrForm)
				}
				expectBytes(t, b)
				expectFault(t, "another policy's kind, a byte behind", append(bytes.Clone(b), 0), api.ErrForm)
			}
		}
	}
}

// TestPoliciesThatAreNone: the kinds are right, the numbers aren't.
func TestPoliciesThatAreNone(t *testing.T) {
	for _, x := range []uint64{0, 1, 256, 1 << 63, m} {
		noGap, noSpan := laid(1, 5, "k", laidPolicy(1, 0, x)), laid(1, 5, "k", laidPolicy(2, x, 0))
		expectFault(t, "a gap of 0", noGap, api.ErrForm)
		expectFault(t, "a span of 0", noSpan, api.ErrForm)
		expectFault(t, "a gap of 0, cut", noGap[:len(noGap)-1], api.ErrShort)
		expectFault(t, "a span of 0, cut", noSpan[:len(noSpan)-1], api.ErrShort)
		expectFault(t, "a gap of 0, a byte behind", append(noGap, 0), api.ErrForm)
	}
}

func TestLevelsThatAreNone(t *testing.T) {
	for _, v := range everyLevel([]uint64{0, 1, 256, 1 << 63, m}) {
		b := laid(3, 5, "k", eight(v.Tat, v.Index, v.Count))
		if v.Tat != 0 && (v.Index != 0 || v.Count != 0) {
			expectFault(t, "Tat beside Index or Count", b, api.ErrForm)
			expectFault(t, "Tat beside Index or Count, cut", b[:len(b)-1], api.ErrShort)
		}
		expectBytes(t, b)
	}
}

// TestOtherLengthsOfKeys: the length in the bytes is another one, and what is behind it is read by that length.
func TestOtherLengthsOfKeys(t *testing.T) {
	for _, b := range sampleBytes() {
		for length := range 300 {
			other := bytes.Clone(b)
			other[9], other[10] = byte(length), byte(length>>8)
			expectBytes(t, other)
		}
		for _, length := range []int{1 << 8, 1 << 9, 1 << 15, 65535} {
			other := bytes.Clone(b)
			other[9], other[10] = byte(length), byte(length>>8)
			expectFault(t, "a length far beyond the bytes", other, api.ErrShort)
		}
	}
}

// TestKeysThatAreNone: as many bytes as the length says, and the length is none of a key's.
func TestKeysThatAreNone(t *testing.T) {
	rests := [][]byte{1: laidPolicy(1, 10, 3), 2: nil, 3: eight(7, 0, 0)}
	for kind := byte(1); kind <= 3; kind++ {
		for _, length := range []int{0, 65, 66, 100, 255, 256, 257, 320, 65535} {
			b := laid(kind, 5, strings.Repeat("k", length), rests[kind])
			expectFault(t, "no key", b, api.ErrForm)
			expectFault(t, "no key, cut", b[:len(b)-1], api.ErrShort)
			expectFault(t, "no key, a byte behind", append(b, 0), api.ErrForm)
		}
	}
}

// TestWhichFaultIsFirst: of bytes that have two faults.
func TestWhichFaultIsFirst(t *testing.T) {
	rows := []struct {
		what string
		b    []byte
		want error
	}{
		{"another kind, and nothing behind it", []byte{0}, api.ErrForm},
		{"another kind, and a floor that is short", []byte{9, 1, 1}, api.ErrForm},
		{"another kind, and a key that is short", laid(4, 5, "key")[:12], api.ErrForm},
		{"another kind, all else a delete's", laid(4, 5, "key"), api.ErrForm},
		{"a key that is empty, the policy missing", laid(1, 5, ""), api.ErrShort},
		{"a key that is empty, the level missing", laid(3, 5, ""), api.ErrShort},
		{"a key that is too long, the policy missing", laid(1, 5, strings.Repeat("k", 65)), api.ErrShort},
		{"a key that is too long, its last byte missing", laid(2, 5, strings.Repeat("k", 65))[:75], api.ErrShort},
		{"a policy's kind that is none, its numbers missing", laid(1, 5, "k", []byte{0}), api.ErrShort},
		{"a policy's kind that is none, one number missing", laid(1, 5, "k", []byte{7}, eight(1)), api.ErrShort},
		{"a gap of 0, the slack missing", laid(1, 5, "k", []byte{1}, eight(0)), api.ErrShort},
		{"Tat and Index, Count missing", laid(3, 5, "k", eight(1, 1)), api.ErrShort},
		{"a delete with a policy's bytes behind it", laid(2, 5, "k", laidPolicy(1, 10, 3)), api.ErrForm},
		{"a delete with a level's bytes behind it", laid(2, 5, "k", eight(0, 0, 0)), api.ErrForm},
		{"a define with a level's bytes behind it", laid(1, 5, "k", laidPolicy(1, 10, 3), eight(0, 0, 0)), api.ErrForm},
		{"a define with a level's bytes for the policy", laid(1, 5, "k", eight(7, 0, 0)), api.ErrForm},
		{"a ceiling with a policy's bytes for the level", laid(3, 5, "k", laidPolicy(1, 10, 3)), api.ErrShort},
	}
	for _, row := range rows {
		expectFault(t, row.what, row.b, row.want)
	}
}

// TestBytesOfEveryLength: bytes of few unlike values, of every length about those of records.
func TestBytesOfEveryLength(t *testing.T) {
	r := rand.New(rand.NewSource(114))
	for length := range 130 {
		for x := range 256 {
			expectBytes(t, bytes.Repeat([]byte{byte(x)}, length))
			b := make([]byte, length)
			if length > 0 {
				b[0] = byte(x)
			}
			expectBytes(t, b)
		}
		for range 2000 {
			expectBytes(t, drawnBytes(r, length))
		}
	}
}

// drawnBytes have a kind in front and a key's length in its place more often than not, so that what is behind these is read, too.
func drawnBytes(r *rand.Rand, length int) []byte {
	b := make([]byte, length)
	for i := range b {
		b[i] = byte(r.Intn(256) >> r.Intn(9))
	}
	if length > 10 && r.Intn(4) > 0 {
		b[0], b[9], b[10] = byte(r.Intn(5)), byte(r.Intn(length)), 0
		if keyEnd := 11 + int(b[9]); keyEnd < length {
			b[keyEnd] = byte(r.Intn(4))
		}
	}
	return b
}

// TestEveryByteTurned: each byte of a record made every other one.
func TestEveryByteTurned(t *testing.T) {
	for _, whole := range sampleBytes() {
		for at := range whole {
			b := bytes.Clone(whole)
			for x := range 256 {
				b[at] = byte(x)
				expectBytes(t, b)
			}
		}
	}
}

// TestManyBytes: far more than any record has, whatever the kind and the key's length.
func TestManyBytes(t *testing.T) {
	long := make([]byte, 1<<22)
	for kind := range 5 {
		for _, length := range []uint16{0, 1, 64, 65, 65535} {
			long[0], long[9], long[10] = byte(kind), byte(length), byte(length>>8)
			if r, err := record.Decode(long); r != (api.Record{}) || err != api.ErrForm {
				t.Errorf("P11.3: Decode of %d bytes, kind %d, length %d: %s, %v", len(long), kind, length, tell(r), err)
			}
		}
	}
}
