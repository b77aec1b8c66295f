package record_test

import (
	"bytes"
	"math/rand"
	"testing"

	"turnstile/api"
	"turnstile/record"
)

func TestSamplesThereAndBack(t *testing.T) {
	for _, r := range samples() {
		expectRecord(t, r)
		b, _ := plainEncode(r)
		if err := expectBytes(t, b); err != nil {
			t.Errorf("P11.2: Decode(%x), which are the bytes of %s, answers %v", b, tell(r), err)
		}
	}
}

func TestAnyRecordThereAndBack(t *testing.T) {
	r := rand.New(rand.NewSource(112))
	for range 100000 {
		d := anyRecord(r)
		b, err := record.Encode(d)
		if err != nil {
			t.Fatalf("P11.2: Encode(%s) answers %v", tell(d), err)
		}
		if back, err := record.Decode(b); back != d || err != nil {
			t.Fatalf("P11.2: Decode of what Encode(%s) answers is %s, %v", tell(d), tell(back), err)
		}
	}
}

// TestEveryFieldHasItsPlace: one number made another one changes its own eight bytes alone.
func TestEveryFieldHasItsPlace(t *testing.T) {
	const x = 0x8877665544332211
	rows := []struct {
		from, to api.Record
		at       int
	}{
		{remove(0, "key"), remove(x, "key"), 1},
		{define(0, "key", flow(1, 1)), define(x, "key", flow(1, 1)), 1},
		{define(0, "key", flow(1, 1)), define(0, "key", flow(x, 1)), 15},
		{define(0, "key", flow(1, 1)), define(0, "key", flow(1, x)), 23},
		{define(0, "key", grid(1, 1)), define(0, "key", grid(x, 1)), 15},
		{define(0, "key", grid(1, 1)), define(0, "key", grid(1, x)), 23},
		{ceiling(0, "key", api.Level{}), ceiling(x, "key", api.Level{}), 1},
		{ceiling(0, "key", api.Level{}), ceiling(0, "key", tat(x)), 14},
		{ceiling(0, "key", used(1, 1)), ceiling(0, "key", used(x, 1)), 22},
		{ceiling(0, "key", used(1, 1)), ceiling(0, "key", used(1, x)), 30},
	}
	for _, row := range rows {
		want, err := record.Encode(row.from)
		if len(want) < row.at+8 || err != nil {
			t.Fatalf("P11.2: Encode(%s) is %x, %v", tell(row.from), want, err)
		}
		copy(want[row.at:], eight(x))
		if b, err := record.Encode(row.to); !bytes.Equal(b, want) || err != nil {
			t.Errorf("P11.2: Encode(%s) is %x, %v, want %x", tell(row.to), b, err, want)
		}
	}
}

// TestAcceptedBytesAreTheirRecords: whatever bytes Decode takes, by drawing and by turning bytes of records, are what Encode answers.
func TestAcceptedBytesAreTheirRecords(t *testing.T) {
	r := rand.New(rand.NewSource(113))
	taken := 0
	for range 200000 {
		b, _ := plainEncode(anyRecord(r))
		for range r.Intn(3) {
			b[r.Intn(len(b))] = byte(r.Intn(256) >> r.Intn(9))
		}
		if expectBytes(t, b) == nil {
			taken++
		}
	}
	if taken < 50000 || taken > 195000 {
		t.Errorf("%d of 200000 were taken, want some of both kinds", taken)
	}
}
