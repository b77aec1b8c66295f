package image_test

import (
	"fmt"
	"strings"
	"testing"

	"turnstile/api"
)

// Bytes whose parts are all there and whose sum fits, of states that aren't valid.

func TestBytesOfNumbersAboveMaxLsn(t *testing.T) {
	for _, keys := range [][]api.Entry{nil, abc().Keys, manyKeys(full)} {
		for _, lsn := range []uint64{last + 1, last + 2, 1 << 63, m - 1, m} {
			expectFault(t, "an Lsn above MaxLsn", laidState(stateOf(lsn, 5, keys...)), api.ErrForm)
		}
	}
}

func TestBytesOfKeysThatDoNotRise(t *testing.T) {
	for _, row := range fallingRows() {
		expectFault(t, "keys that don't rise", laidState(ofKeys(row...)), api.ErrForm)
	}
	keys := risingKeys()
	for i, a := range keys {
		for j, b := range keys {
			if i >= j {
				expectFault(t, "two keys that don't rise", laidState(ofKeys(a, b)), api.ErrForm)
			} else if err := expectBytes(t, "two keys that rise", laidState(ofKeys(a, b))); err != nil {
				t.Errorf("P14.1: Decode of the bytes of %s answers %v", tell(ofKeys(a, b)), err)
			}
		}
	}
	s := stateOf(9, 5, manyKeys(full)...)
	for _, at := range []int{1, 2048, full - 1} {
		again := with(s, at, s.Keys[at-1])
		expectFault(t, "a key twice among MaxKeys keys", laidState(again), api.ErrForm)
	}
}

func TestBytesOfKeysThatAreNone(t *testing.T) {
	for _, key := range otherKeys() {
		expectFault(t, "no key", laidState(ofKeys(key)), api.ErrForm)
	}
	for length := 65; length < 330; length++ {
		key := strings.Repeat("b", length)
		for _, s := range []api.State{ofKeys(key), ofKeys(key, "c"), ofKeys("a", key, "c"), ofKeys("a", "aa", key)} {
			expectFault(t, fmt.Sprint("a key of ", length, " bytes"), laidState(s), api.ErrForm)
		}
	}
	for _, s := range []api.State{ofKeys("", "a"), ofKeys("a", ""), ofKeys("a", "", "b"), ofKeys("", ""), ofKeys("a", "b", "")} {
		expectFault(t, "an empty key", laidState(s), api.ErrForm)
	}
}

// TestBytesOfPoliciesThatAreNone: the kinds are right, the numbers aren't.
func TestBytesOfPoliciesThatAreNone(t *testing.T) {
	for at, e := range abc().Keys {
		for _, x := range ends() {
			for _, y := range ends() {
				noGap := with(abc(), at, entry(e.Key, flow(0, x), tat(y)))
				noSpan := with(abc(), at, entry(e.Key, grid(x, 0), used(y, x)))
				expectFault(t, "a gap of 0", laidState(noGap), api.ErrForm)
				expectFault(t, "a span of 0", laidState(noSpan), api.ErrForm)
			}
		}
	}
}

// TestWhichFaultIsFirst: of bytes that have two faults.
func TestWhichFaultIsFirst(t *testing.T) {
	good, long := laidKey("a", 1, 1, 0, 0), strings.Repeat("k", 65)
	otherSum := func(b []byte) []byte {
		b = sealed(b)
		b[len(b)-1] ^= 0x80
		return b
	}
	otherMark := func(b []byte) []byte { return sealed(append([]byte("TI02"), b[4:]...)) }
	rows := []struct {
		what string
		b    []byte
		want error
	}{
		{"too few bytes, another beginning", []byte("XXXX0000000000000000000"), api.ErrShort},
		{"too few bytes, another sum", laid(0, 0, 0)[:23], api.ErrShort},
		{"27 bytes, the sum right, another beginning", sealed(make([]byte, 23)), api.ErrShort},
		{"another beginning, another sum", append([]byte("XX"), otherSum(laid(1, 1, 1, good))[2:]...), api.ErrForm},
		{"another beginning, a key missing", otherMark(laid(1, 1, 1)), api.ErrForm},
		{"another beginning, a key that ends early", otherMark(laid(1, 1, 1, good[:9])), api.ErrForm},
		{"another sum, a count above MaxKeys", otherSum(laid(1, 1, 4097, good)), api.ErrSum},
		{"another sum, a key missing", otherSum(laid(1, 1, 2, good)), api.ErrSum},
		{"another sum, a key that ends early", otherSum(laid(1, 1, 1, good[:9])), api.ErrSum},
		{"another sum, another kind", otherSum(laid(1, 1, 1, laidKey("a", 3, 1, 0, 0))), api.ErrSum},
		{"another sum, bytes left", otherSum(append(laid(1, 1, 1, good), 0)), api.ErrSum},
		{"another sum, an Lsn above MaxLsn", otherSum(laid(last+1, 1, 1, good)), api.ErrSum},
		{"another sum, a gap of 0", otherSum(laid(1, 1, 1, laidKey("a", 1, 0, 0, 0))), api.ErrSum},
		{"a count above MaxKeys, no key", sealed(laid(1, 1, 4097)), api.ErrForm},
		{"a count above MaxKeys, a key that ends early", sealed(laid(1, 1, 4097, good[:9])), api.ErrForm},
		{"an Lsn above MaxLsn, a key missing", sealed(laid(last+1, 1, 1)), api.ErrShort},
		{"an Lsn above MaxLsn, a key that ends early", sealed(laid(m, 1, 2, good, good[:20])), api.ErrShort},
		{"another kind, its numbers missing", sealed(laid(1, 1, 1, laidKey("a", 3))), api.ErrForm},
		{"another kind, then a key that ends early", sealed(laid(1, 1, 2, laidKey("a", 0, 1, 0, 0), good[:5])), api.ErrForm},
		{"another kind, then a key missing", sealed(laid(1, 1, 2, laidKey("a", 255, 1, 0, 0))), api.ErrForm},
		{"a second key whose kind is missing, where the sum would be read for it", sealed(laid(1, 1, 2, good, laidKey("b", 3)[:3])), api.ErrShort},
		{"a gap of 0, then a key that ends early", sealed(laid(1, 1, 2, laidKey("a", 1, 0, 0, 0), good[:5])), api.ErrShort},
		{"a gap of 0, the level missing", sealed(laid(1, 1, 1, laidKey("a", 1, 0, 0))), api.ErrShort},
		{"a span of 0, the count missing", sealed(laid(1, 1, 1, laidKey("a", 2, 0, 0, 0))), api.ErrShort},
		{"an empty key, its kind missing", sealed(laid(1, 1, 1, []byte{0, 0})), api.ErrShort},
		{"an empty key, its numbers missing", sealed(laid(1, 1, 1, laidKey("", 1))), api.ErrShort},
		{"an empty key, then a key missing", sealed(laid(1, 1, 2, laidKey("", 1, 1, 0, 0))), api.ErrShort},
		{"a key that is too long, its kind missing", sealed(laid(1, 1, 1, laidKey(long, 1)[:67])), api.ErrShort},
		{"a key that is too long, a number missing", sealed(laid(1, 1, 1, laidKey(long, 2, 1, 1, 1))), api.ErrShort},
		{"a key twice, then a key missing", sealed(laid(1, 1, 3, good, good)), api.ErrShort},
		{"a key twice, then one of another kind", sealed(laid(1, 1, 3, good, good, laidKey("c", 9))), api.ErrForm},
		{"a key twice, and bytes left", sealed(append(laid(1, 1, 2, good, good), 1, 2, 3)), api.ErrForm},
		{"an Lsn above MaxLsn, and bytes left", sealed(append(laid(m, 1, 1, good), 1, 2, 3)), api.ErrForm},
	}
	for _, row := range rows {
		expectFault(t, row.what, row.b, row.want)
	}
}
