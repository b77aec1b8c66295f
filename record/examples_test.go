package record_test

import (
	"encoding/hex"
	"strings"
	"testing"

	"turnstile/api"
	"turnstile/record"
)

func fromHex(t *testing.T, s string) []byte {
	t.Helper()
	b, err := hex.DecodeString(strings.ReplaceAll(s, " ", ""))
	if err != nil {
		t.Fatal(err)
	}
	return b
}

// TestExamplesInBytes has the chapter's examples, and one of each field at its place.
func TestExamplesInBytes(t *testing.T) {
	const zeros = " 00000000000000 "
	rows := []struct {
		r    api.Record
		want string
		size int
	}{
		{remove(5, "k"), "02 05" + zeros + "0100 6b", 12},
		{define(0, "ab", flow(10, 3)), "01 00" + zeros + "0200 6162 01 0a" + zeros + "03" + zeros, 30},
		{ceiling(1, "k", used(2, 9)), "03 01" + zeros + "0100 6b 00" + zeros + "02" + zeros + "09" + zeros, 36},
		{define(0, "ab", grid(10, 3)), "01 00" + zeros + "0200 6162 02 0a" + zeros + "03" + zeros, 30},
		{ceiling(1, "k", tat(7)), "03 01" + zeros + "0100 6b 07" + zeros + "00" + zeros + "00" + zeros, 36},
		{ceiling(1, "k", api.Level{}), "03 01" + zeros + "0100 6b 00" + zeros + "00" + zeros + "00" + zeros, 36},
		{remove(m, "\x00\xff"), "02 ffffffffffffffff 0200 00ff", 13},
		{remove(0x0102030405060708, strings.Repeat("k", 64)), "02 0807060504030201 4000" + strings.Repeat("6b", 64), 75},
		{define(1<<63, "k", flow(0x1112131415161718, m)), "01 0000000000000080 0100 6b 01 1817161514131211 ffffffffffffffff", 29},
		{define(1<<63, "k", grid(m, 0x1112131415161718)), "01 0000000000000080 0100 6b 02 ffffffffffffffff 1817161514131211", 29},
		{ceiling(0, strings.Repeat("k", 64), used(m, 0x0102)), "03 00" + zeros + "4000" + strings.Repeat("6b", 64) + "00" + zeros +
			"ffffffffffffffff 0201000000000000", 99},
	}
	for _, row := range rows {
		want := string(fromHex(t, row.want))
		b, err := record.Encode(row.r)
		if string(b) != want || len(b) != row.size || err != nil {
			t.Errorf("P11.2: Encode(%s) is %x, %v, want %x", tell(row.r), b, err, want)
		}
		if back, err := record.Decode([]byte(want)); back != row.r || err != nil {
			t.Errorf("P11.2: Decode(%x) is %s, %v, want %s", want, tell(back), err, tell(row.r))
		}
		if !record.Valid(row.r) {
			t.Errorf("P11.1: Valid(%s) is false", tell(row.r))
		}
	}
}

func TestExamplesOfWhatEncodeRefuses(t *testing.T) {
	ofKind := func(kind int) api.Record { return api.Record{Kind: kind, Key: "k"} }
	deleteWith, ceilingWith := remove(0, "k"), ceiling(0, "k", api.Level{})
	deleteWith.Policy, ceilingWith.Policy = flow(10, 3), flow(10, 3)
	deleteLevel, defineLevel := remove(0, "k"), define(0, "k", flow(10, 3))
	deleteLevel.Level, defineLevel.Level = tat(1), tat(1)
	for _, r := range []api.Record{
		{}, ofKind(0), ofKind(4), ofKind(255), ofKind(-1), ofKind(257), ofKind(1),
		remove(0, ""), remove(0, strings.Repeat("k", 65)), deleteWith, deleteLevel,
		define(0, "k", api.Policy{}), define(0, "k", flow(0, 0)), define(0, "k", grid(1, 0)), define(0, "", flow(10, 3)), defineLevel,
		ceiling(0, "k", api.Level{Tat: 1, Count: 1}), ceiling(0, "k", api.Level{Tat: 1, Index: 1}), ceilingWith,
	} {
		if b, err := record.Encode(r); len(b) != 0 || err != api.ErrArg {
			t.Errorf("P11.2: Encode(%s) is %x, %v, want ErrArg", tell(r), b, err)
		}
		if record.Valid(r) {
			t.Errorf("P11.1: Valid(%s) is true", tell(r))
		}
	}
}

func TestExamplesOfWhatDecodeRefuses(t *testing.T) {
	const floor = "05 00000000000000 "
	numbers := strings.Repeat("0a 00000000000000 ", 2)
	rows := []struct {
		b    string
		want error
	}{
		{"", api.ErrShort},
		{"04", api.ErrForm},
		{"00", api.ErrForm},
		{"ff", api.ErrForm},
		{"02", api.ErrShort},
		{"02" + floor + "0100 6b 00", api.ErrForm},
		{"02" + floor + "0000", api.ErrForm},
		{"02" + floor + "0200 6b", api.ErrShort},
		{"02" + floor + "01", api.ErrShort},
		{"01" + floor + "0100 6b 03" + numbers, api.ErrForm},
		{"01" + floor + "0100 6b 03" + numbers[:len(numbers)-3], api.ErrShort},
		{"01" + floor + "0100 6b 00" + numbers, api.ErrForm},
		{"01" + floor + "0100 6b 01" + numbers + "00", api.ErrForm},
		{"03" + floor + "0100 6b" + numbers + "00 00000000000000", api.ErrForm},
		{"03" + floor + "0100 6b" + numbers + "00 000000000000", api.ErrShort},
	}
	for _, row := range rows {
		if r, err := record.Decode(fromHex(t, row.b)); r != (api.Record{}) || err != row.want {
			t.Errorf("P11.3: Decode(%s) is %s, %v, want %v", row.b, tell(r), err, row.want)
		}
	}
}
