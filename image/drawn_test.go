package image_test

import (
	"math/rand"
	"testing"

	"turnstile/api"
)

// TestDrawnBytes: long rows of a state's bytes with something made another one in them, most of them under a sum that fits.
func TestDrawnBytes(t *testing.T) {
	r := rand.New(rand.NewSource(143))
	answers := map[error]int{}
	for range 200000 {
		answers[expectBytes(t, "drawn", drawnBytes(r))]++
	}
	for _, err := range []error{nil, api.ErrShort, api.ErrForm, api.ErrSum} {
		if answers[err] < 10000 {
			t.Errorf("%d answers were %v: too few", answers[err], err)
		}
	}
}

func drawnBytes(r *rand.Rand) []byte {
	s := drawnState(r)
	for range r.Intn(3) {
		s = disturbed(r, s)
	}
	b := laidState(s)
	b = b[:len(b)-4]
	for range r.Intn(3) {
		b = changed(r, b)
	}
	b = sealed(b)
	if r.Intn(10) == 0 {
		b = changed(r, b)
	}
	return b
}

// changed is b with one byte turned, some put in or taken out, or cut.
func changed(r *rand.Rand, b []byte) []byte {
	if len(b) == 0 {
		return b
	}
	at := r.Intn(len(b))
	switch r.Intn(6) {
	case 0, 1:
		b[at] = byte(r.Intn(256) >> r.Intn(9))
	case 2:
		b[min(20, at)] = byte(r.Intn(10))
	case 3:
		b = append(b[:at:at], append(make([]byte, r.Intn(9)), b[at:]...)...)
	case 4:
		b = append(b[:at:at], b[min(len(b), at+r.Intn(9)):]...)
	case 5:
		b = b[:at]
	}
	return b
}

// TestBytesOfEveryLength: bytes of few unlike values, of every length about those of small states, with the mark and a sum that fits.
func TestBytesOfEveryLength(t *testing.T) {
	r := rand.New(rand.NewSource(144))
	for length := range 150 {
		for range 1000 {
			b := make([]byte, length)
			for i := range b {
				b[i] = byte(r.Intn(256) >> r.Intn(9))
			}
			expectBytes(t, "drawn", b)
			copy(b, "TI01")
			expectBytes(t, "drawn, with the mark", b)
			if length > 24 {
				copy(b[20:24], []byte{byte(r.Intn(4)), 0, 0, 0})
			}
			expectBytes(t, "drawn, with the mark and the sum", sealed(b))
		}
	}
}
