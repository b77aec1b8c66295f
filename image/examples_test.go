package image_test

import (
	"bytes"
	"encoding/hex"
	"strings"
	"testing"

	"turnstile/api"
	"turnstile/image"
)

func fromHex(t *testing.T, s string) []byte {
	t.Helper()
	b, err := hex.DecodeString(strings.ReplaceAll(s, " ", ""))
	if err != nil {
		t.Fatal(err)
	}
	return b
}

// TestExamplesInBytes has the chapter's examples, and states of both kinds of policies, written out.
func TestExamplesInBytes(t *testing.T) {
	const zeros, ones = "00000000000000 ", "ffffffffffffffff "
	rows := []struct {
		s    api.State
		want string
		size int
	}{
		{api.State{}, "54493031" + strings.Repeat("00", 20) + "05b65935", 28},
		{stateOf(7, 100, entry("k", flow(10, 30), tat(140))), "54493031 07" + zeros + "64" + zeros + "01000000 0100 6b 01 0a" + zeros + "1e" + zeros + "8c" + zeros +
			"10390d9c", 56},
		{stateOf(0x0102030405060708, 1<<63, entry("ab", grid(4, 5), used(6, 7))), "54493031 0807060504030201 0000000000000080 01000000" +
			"0200 6162 02 04" + zeros + "05" + zeros + "06" + zeros + "07" + zeros + "68f8c503", 65},
		{stateOf(last, m, entry("\x00", grid(0, 1), used(m, m-1)), entry("\x00\xff", flow(m, 0), tat(0x1112131415161718))), "54493031 0000000000000040" + ones + "02000000" +
			"0100 00 02 00" + zeros + "01" + zeros + ones + "feffffffffffffff" +
			"0200 00ff 01" + ones + "00" + zeros + "1817161514131211 39e43d20", 93},
	}
	for _, row := range rows {
		want := fromHex(t, row.want)
		if b, err := image.Encode(row.s); !bytes.Equal(b, want) || len(b) != row.size || err != nil {
			t.Errorf("P14.1: Encode(%s) is %x, %v, want %x", tell(row.s), b, err, want)
		}
		if back, err := image.Decode(want); !same(back, row.s) || err != nil {
			t.Errorf("P14.1: Decode(%x) is %s, %v, want %s", want, tell(back), err, tell(row.s))
		}
	}
}

func TestExamplesOfWhatEncodeRefuses(t *testing.T) {
	of := func(key string) api.Entry { return entry(key, flow(10, 30), tat(1)) }
	for _, s := range []api.State{
		stateOf(1, 1, of("k"), of("k")), stateOf(1, 1, of("b"), of("a")), stateOf(last+1, 0), stateOf(last+1, 0, of("k")),
		stateOf(1, 1, entry("k", api.Policy{}, api.Level{})), stateOf(1, 1, entry("k", flow(0, 1), api.Level{})), stateOf(1, 1, entry("k", grid(1, 0), api.Level{})),
		stateOf(1, 1, entry("k", flow(1, 1), used(1, 0))), stateOf(1, 1, entry("k", flow(1, 1), used(0, 1))), stateOf(1, 1, entry("k", grid(1, 1), tat(1))),
		stateOf(1, 1, of("")), stateOf(1, 1, of(strings.Repeat("k", 65))),
	} {
		if b, err := image.Encode(s); len(b) != 0 || err != api.ErrArg {
			t.Errorf("P14.1: Encode(%s) is %x, %v, want ErrArg", tell(s), b, err)
		}
	}
}

func TestExamplesOfWhatDecodeRefuses(t *testing.T) {
	const empty = "54493031 0000000000000000 0000000000000000 00000000 05b65935"
	rows := []struct {
		b    string
		want error
	}{
		{"", api.ErrShort},
		{strings.Repeat("00", 27), api.ErrShort},
		{strings.Repeat("00", 28), api.ErrForm},
		{empty[:len(empty)-2] + "34", api.ErrSum},
		{empty[:len(empty)-2], api.ErrShort},
		{"54493030" + empty[8:], api.ErrForm},
		{empty + "00", api.ErrSum},
	}
	for _, row := range rows {
		b := fromHex(t, row.b)
		if s, err := image.Decode(b); !isNothing(s) || err != row.want {
			t.Errorf("P14.2: Decode(%x) is %s, %v, want %v", b, tell(s), err, row.want)
		}
	}
	if s, err := image.Decode(nil); !isNothing(s) || err != api.ErrShort {
		t.Errorf("P14.2: Decode(nil) is %s, %v, want ErrShort", tell(s), err)
	}
}
