package image_test

import (
	"bytes"
	"math/rand"
	"strings"
	"testing"

	"turnstile/api"
	"turnstile/image"
)

func TestSamplesThereAndBack(t *testing.T) {
	for _, s := range append(smallStates(), fullStates()...) {
		if err := expectState(t, "a sample", s); err != nil {
			t.Errorf("P14.1: Encode(%s) answers %v", tell(s), err)
		}
		if err := expectBytes(t, "a sample", laidState(s)); err != nil {
			t.Errorf("P14.1: Decode of the bytes of %s answers %v", tell(s), err)
		}
	}
}

func TestHowManyKeys(t *testing.T) {
	for _, count := range []int{0, 1, 2, 255, 256, 257, 4094, 4095, 4096} {
		s := stateOf(1, 1, manyKeys(count)...)
		if err := expectState(t, "at most MaxKeys keys", s); err != nil {
			t.Errorf("P14.1: Encode of %d keys answers %v", count, err)
		}
		if err := expectBytes(t, "at most MaxKeys keys", laidState(s)); err != nil {
			t.Errorf("P14.1: Decode of %d keys answers %v", count, err)
		}
	}
}

// TestNumbersAtTheirEnds: every number of a state, of a policy and of a level.
func TestNumbersAtTheirEnds(t *testing.T) {
	for _, x := range ends() {
		for _, y := range ends() {
			for _, v := range ends() {
				list := []api.State{stateOf(min(x, last), y, entry("k", flow(max(v, 1), x), tat(y))),
					stateOf(min(y, last), v, entry("k", grid(x, max(y, 1)), used(v, x)), entry("l", grid(v, max(x, 1)), used(y, v)))}
				for _, s := range list {
					if err := expectState(t, "numbers at their ends", s); err != nil {
						t.Fatalf("P14.1: Encode(%s) answers %v", tell(s), err)
					}
				}
			}
		}
	}
}

// TestKeysOfEveryLengthAndByte: each length a key may have, and each byte at the first, a middle and the last place.
func TestKeysOfEveryLengthAndByte(t *testing.T) {
	taken := func(key string) {
		for _, e := range []api.Entry{entry(key, flow(10, 20), tat(30)), entry(key, grid(10, 20), used(30, 40))} {
			s := stateOf(1, 1, e, entry(strings.Repeat("\xff", 64), flow(1, 0), tat(1)))
			if err := expectState(t, "a key", s); err != nil {
				t.Fatalf("P14.1: Encode(%s) answers %v", tell(s), err)
			}
			if err := expectBytes(t, "a key", laidState(s)); err != nil {
				t.Fatalf("P14.1: Decode of the bytes of %s answers %v", tell(s), err)
			}
		}
	}
	for length := 1; length <= 64; length++ {
		for _, x := range []string{"k", "\x00", "\xfe"} {
			taken(strings.Repeat(x, length))
		}
	}
	for x := range 256 {
		c := string([]byte{byte(x)})
		taken(c)
		taken("k" + c)
		taken("k" + c + "k")
		taken(c + "k")
		taken(strings.Repeat("k", 31) + c + strings.Repeat("k", 31) + c)
	}
}

// TestEveryFieldHasItsPlace: one number made another one changes its own eight bytes, and the sum, alone.
func TestEveryFieldHasItsPlace(t *testing.T) {
	const x = 0x3877665544332211
	one := func(p api.Policy, v api.Level) api.State { return stateOf(1, 1, entry("key", p, v)) }
	rows := []struct {
		from, to api.State
		at       int
	}{
		{stateOf(1, 1), stateOf(x, 1), 4},
		{stateOf(1, 1), stateOf(1, x), 12},
		{one(flow(1, 1), tat(1)), one(flow(x, 1), tat(1)), 30},
		{one(flow(1, 1), tat(1)), one(flow(1, x), tat(1)), 38},
		{one(flow(1, 1), tat(1)), one(flow(1, 1), tat(x)), 46},
		{one(grid(1, 1), used(1, 1)), one(grid(x, 1), used(1, 1)), 30},
		{one(grid(1, 1), used(1, 1)), one(grid(1, x), used(1, 1)), 38},
		{one(grid(1, 1), used(1, 1)), one(grid(1, 1), used(x, 1)), 46},
		{one(grid(1, 1), used(1, 1)), one(grid(1, 1), used(1, x)), 54},
	}
	for _, row := range rows {
		want, err := image.Encode(row.from)
		if len(want) < row.at+8 || err != nil {
			t.Fatalf("P14.1: Encode(%s) is %x, %v", tell(row.from), want, err)
		}
		copy(want[row.at:], eight(x))
		want = resealed(want)
		if b, err := image.Encode(row.to); !bytes.Equal(b, want) || err != nil {
			t.Errorf("P14.1: Encode(%s) is %x, %v, want %x", tell(row.to), b, err, want)
		}
		if back, err := image.Decode(want); !same(back, row.to) || err != nil {
			t.Errorf("P14.1: Decode(%x) is %s, %v, want %s", want, tell(back), err, tell(row.to))
		}
	}
}

// TestDrawnStates: long rows of states, most of them valid.
func TestDrawnStates(t *testing.T) {
	r := rand.New(rand.NewSource(141))
	answers := map[error]int{}
	for range 100000 {
		s := drawnState(r)
		for range r.Intn(3) {
			s = disturbed(r, s)
		}
		answers[expectState(t, "drawn", s)]++
	}
	if answers[nil] < 20000 || answers[api.ErrArg] < 20000 {
		t.Errorf("the answers were %v: too few of one kind", answers)
	}
}
