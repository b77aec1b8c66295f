package record_test

import (
	"bytes"
	"fmt"
	"math"
	"math/rand"
	"slices"
	"strings"
	"testing"

	"turnstile/api"
	"turnstile/record"
)

const m = 1<<64 - 1

func flow(gap, slack uint64) api.Policy  { return api.Policy{Kind: api.Flow, Gap: gap, Slack: slack} }
func grid(limit, span uint64) api.Policy { return api.Policy{Kind: api.Grid, Limit: limit, Span: span} }
func tat(x uint64) api.Level             { return api.Level{Tat: x} }
func used(index, count uint64) api.Level { return api.Level{Index: index, Count: count} }

func define(floor uint64, key string, p api.Policy) api.Record {
	return api.Record{Kind: api.RecDefine, Floor: floor, Key: key, Policy: p}
}

func remove(floor uint64, key string) api.Record {
	return api.Record{Kind: api.RecDelete, Floor: floor, Key: key}
}

func ceiling(floor uint64, key string, v api.Level) api.Record {
	return api.Record{Kind: api.RecCeiling, Floor: floor, Key: key, Level: v}
}

// plainValid is when a Record is one, as the chapter writes it: it leans on no other layer.
func plainValid(r api.Record) bool {
	isFlow := r.Policy.Kind == 1 && r.Policy.Gap >= 1 && r.Policy.Limit == 0 && r.Policy.Span == 0
	isGrid := r.Policy.Kind == 2 && r.Policy.Span >= 1 && r.Policy.Gap == 0 && r.Policy.Slack == 0
	noPolicy, noLevel := r.Policy == api.Policy{}, r.Level == api.Level{}
	isDefine := r.Kind == 1 && (isFlow || isGrid) && noLevel
	isDelete := r.Kind == 2 && noPolicy && noLevel
	isCeiling := r.Kind == 3 && noPolicy && (r.Level.Tat == 0 || r.Level.Index == 0 && r.Level.Count == 0)
	return (isDefine || isDelete || isCeiling) && 1 <= len(r.Key) && len(r.Key) <= 64
}

func eight(numbers ...uint64) []byte {
	var out []byte
	for _, x := range numbers {
		for i := range 8 {
			out = append(out, byte(x>>(8*i)))
		}
	}
	return out
}

func eightBack(b []byte) uint64 {
	var x uint64
	for i := 7; i >= 0; i-- {
		x = x<<8 | uint64(b[i])
	}
	return x
}

// laid is the table's fields one behind the other, whatever stands in them: of another kind nothing is behind the key.
func laid(kind byte, floor uint64, key string, rest ...[]byte) []byte {
	out := append([]byte{kind}, eight(floor)...)
	out = append(out, byte(len(key)), byte(len(key)>>8))
	out = append(out, key...)
	return append(out, bytes.Join(rest, nil)...)
}

func laidPolicy(kind byte, first, second uint64) []byte {
	return append([]byte{kind}, eight(first, second)...)
}

func plainEncode(r api.Record) ([]byte, error) {
	p := r.Policy
	switch {
	case !plainValid(r):
		return nil, api.ErrArg
	case r.Kind == 1 && p.Kind == 1:
		return laid(1, r.Floor, r.Key, laidPolicy(1, p.Gap, p.Slack)), nil
	case r.Kind == 1:
		return laid(1, r.Floor, r.Key, laidPolicy(2, p.Limit, p.Span)), nil
	case r.Kind == 2:
		return laid(2, r.Floor, r.Key), nil
	}
	return laid(3, r.Floor, r.Key, eight(r.Level.Tat, r.Level.Index, r.Level.Count)), nil
}

// plainDecode goes by how many bytes the table asks for.
func plainDecode(b []byte) (api.Record, error) {
	if len(b) == 0 {
		return api.Record{}, api.ErrShort
	}
	if b[0] < 1 || b[0] > 3 {
		return api.Record{}, api.ErrForm
	}
	if len(b) < 11 {
		return api.Record{}, api.ErrShort
	}
	keyEnd := 11 + int(b[9]) + 256*int(b[10])
	end := keyEnd + [...]int{1: 17, 2: 0, 3: 24}[b[0]]
	if len(b) < end {
		return api.Record{}, api.ErrShort
	}
	r := api.Record{Kind: int(b[0]), Floor: eightBack(b[1:9]), Key: string(b[11:keyEnd])}
	rest := b[keyEnd:end]
	switch {
	case r.Kind == 1 && rest[0] == 1:
		r.Policy = flow(eightBack(rest[1:]), eightBack(rest[9:]))
	case r.Kind == 1 && rest[0] == 2:
		r.Policy = grid(eightBack(rest[1:]), eightBack(rest[9:]))
	case r.Kind == 3:
		r.Level = api.Level{Tat: eightBack(rest), Index: eightBack(rest[8:]), Count: eightBack(rest[16:])}
	}
	if len(b) > end || !plainValid(r) {
		return api.Record{}, api.ErrForm
	}
	return r, nil
}

// expectRecord holds Valid and Encode of r against the plain reckoning, and Decode against what Encode answers.
func expectRecord(t *testing.T, r api.Record) {
	t.Helper()
	if have, want := record.Valid(r), plainValid(r); have != want {
		t.Fatalf("P11.1: Valid(%s) is %v, want %v", tell(r), have, want)
	}
	want, wantErr := plainEncode(r)
	b, err := record.Encode(r)
	if !bytes.Equal(b, want) || err != wantErr {
		t.Fatalf("P11.2: Encode(%s) is %x, %v, want %x, %v", tell(r), b, err, want, wantErr)
	}
	if err != nil {
		return
	}
	if len(b) < 12 || len(b) > 99 {
		t.Fatalf("P11.2: Encode(%s) has %d bytes", tell(r), len(b))
	}
	if back, err := record.Decode(b); back != r || err != nil {
		t.Fatalf("P11.2: Decode(%x) is %s, %v, want %s", b, tell(back), err, tell(r))
	}
}

// expectBytes holds Decode of b against the plain reckoning, and Encode against what Decode answers; it answers Decode's error.
func expectBytes(t *testing.T, b []byte) error {
	t.Helper()
	want, wantErr := plainDecode(b)
	r, err := record.Decode(b)
	if r != want || err != wantErr {
		t.Fatalf("P11.3: Decode(%x) is %s, %v, want %s, %v", b, tell(r), err, tell(want), wantErr)
	}
	if err != nil {
		return err
	}
	if back, err := record.Encode(r); !bytes.Equal(back, b) || err != nil || !record.Valid(r) {
		t.Fatalf("P11.2: Encode of what Decode answers to %x is %x, %v", b, back, err)
	}
	return nil
}

// tell is r in a message, a long key by its length.
func tell(r api.Record) string {
	if len(r.Key) > 70 {
		r.Key = fmt.Sprintf("%d bytes", len(r.Key))
	}
	return fmt.Sprintf("%+q", fmt.Sprintf("%+v", r))
}

// kinds: the three, those next to them, the ends, and ones that would be one of the three if they were cut.
func kinds() []int {
	return []int{math.MinInt, math.MinInt + 1, -255, -254, -1, 0, 1, 2, 3, 4, 5, 255, 256 + 1, 256 + 2, 256 + 3,
		65536 + 1, 1<<32 + 2, math.MaxInt - 1, math.MaxInt}
}

// goodKeys are of 1 to 64 bytes, of any bytes; badKeys are of none or of more, also where a length cut to one or two bytes would do, or characters are few.
func goodKeys() []string {
	return []string{"k", "\x00", "\xff", "ab", "\xc3", "zwölf", "a\x00b", strings.Repeat("k", 63), strings.Repeat("k", 64),
		strings.Repeat("\x00", 64), strings.Repeat("\xff", 64), strings.Repeat("ö", 32)}
}

func badKeys() []string {
	list := []string{"", strings.Repeat("ö", 33), strings.Repeat("ö", 64), strings.Repeat("\x00", 65)}
	for _, length := range []int{65, 66, 128, 200, 255, 256, 257, 65535, 65536, 65537} {
		list = append(list, strings.Repeat("k", length))
	}
	return list
}

func goodPolicies() []api.Policy {
	var list []api.Policy
	for _, x := range []uint64{1, 2, 10, 1 << 32, 1 << 63, m} {
		for _, y := range []uint64{0, 1, 3, 1 << 40, m - 1, m} {
			list = append(list, flow(x, y), grid(y, x))
		}
	}
	return list
}

// badPolicies are ones in which one thing is amiss, or several; the one of zeros, which is right for a delete and a ceiling, is there once.
func badPolicies() []api.Policy {
	list := []api.Policy{flow(0, 0), flow(0, 20), flow(0, m), grid(0, 0), grid(3, 0), grid(m, 0)}
	for _, x := range []uint64{1, 256, 1 << 32, 1 << 63, m} {
		list = append(list, api.Policy{Kind: api.Flow, Gap: 10, Limit: x}, api.Policy{Kind: api.Flow, Gap: 10, Span: x},
			api.Policy{Kind: api.Grid, Span: 10, Gap: x}, api.Policy{Kind: api.Grid, Span: 10, Slack: x},
			api.Policy{Gap: x}, api.Policy{Slack: x}, api.Policy{Limit: x}, api.Policy{Span: x})
	}
	for _, kind := range kinds() {
		if kind != 1 && kind != 2 {
			list = append(list, api.Policy{Kind: kind, Gap: 10, Slack: 3}, api.Policy{Kind: kind, Limit: 3, Span: 10},
				api.Policy{Kind: kind}, api.Policy{Kind: kind, Gap: 1, Slack: 1, Limit: 1, Span: 1})
		}
	}
	return list
}

func everyLevel(list []uint64) []api.Level {
	var out []api.Level
	for _, x := range list {
		for _, index := range list {
			for _, count := range list {
				out = append(out, api.Level{Tat: x, Index: index, Count: count})
			}
		}
	}
	return out
}

// goodLevels are those that a ceiling may have.
func goodLevels() []api.Level {
	return []api.Level{{}, tat(1), tat(7), tat(1 << 63), tat(m), used(1, 0), used(m, 0), used(0, 1), used(0, m), used(2, 9),
		used(1<<63, 1<<40), used(m, m)}
}

// samples are records of all kinds, with keys of unlike lengths and numbers at their ends.
func samples() []api.Record {
	var list []api.Record
	floors := []uint64{0, 5, 0x0102030405060708, 1 << 63, m}
	for i, key := range goodKeys() {
		floor := floors[i%len(floors)]
		list = append(list, remove(floor, key), define(floor, key, flow(10, 3)), define(floor, key, grid(4, 5)),
			ceiling(floor, key, tat(7)), ceiling(floor, key, used(2, 9)), ceiling(floor, key, api.Level{}))
	}
	list = append(list, define(1, "numbers", flow(0x1112131415161718, 0x2122232425262728)), define(1, "numbers", grid(m-1, m)),
		define(1, "numbers", grid(0, 1)), define(1, "numbers", flow(m, 0)), ceiling(1, "numbers", tat(m)), ceiling(1, "numbers", used(m, m-1)))
	return list
}

// anyNumber is of any length in bits, from either end.
func anyNumber(r *rand.Rand) uint64 {
	x := r.Uint64() >> r.Intn(65)
	if r.Intn(4) == 0 {
		return m - x
	}
	return x
}

func anyKey(r *rand.Rand) string {
	key := make([]byte, 1+r.Intn(64))
	r.Read(key)
	return string(key)
}

// anyRecord is a record of any kind.
func anyRecord(r *rand.Rand) api.Record {
	floor, key := anyNumber(r), anyKey(r)
	switch r.Intn(5) {
	case 0:
		return remove(floor, key)
	case 1:
		return define(floor, key, flow(max(anyNumber(r), 1), anyNumber(r)))
	case 2:
		return define(floor, key, grid(anyNumber(r), max(anyNumber(r), 1)))
	case 3:
		return ceiling(floor, key, tat(anyNumber(r)))
	}
	return ceiling(floor, key, used(anyNumber(r), anyNumber(r)))
}

// disturbed is r with one field made another one, whichever; it may still be a record.
func disturbed(r *rand.Rand, d api.Record) api.Record {
	fields := []*uint64{&d.Floor, &d.Policy.Gap, &d.Policy.Slack, &d.Policy.Limit, &d.Policy.Span, &d.Level.Tat, &d.Level.Index, &d.Level.Count}
	switch i := r.Intn(len(fields) + 3); {
	case i < len(fields):
		*fields[i] = anyNumber(r)
	case i == len(fields):
		d.Kind = r.Intn(6) - 1
	case i == len(fields)+1:
		d.Policy.Kind = r.Intn(5) - 1
	default:
		d.Key = strings.Repeat("k", r.Intn(70))
	}
	return d
}

// TestSamplesAreOfAllKinds holds the samples to what the other tests need of them.
func TestSamplesAreOfAllKinds(t *testing.T) {
	var lengths []int
	seen := map[[2]int]int{}
	for _, r := range samples() {
		if !plainValid(r) {
			t.Errorf("%s is no record", tell(r))
		}
		b, _ := plainEncode(r)
		lengths = append(lengths, len(b))
		seen[[2]int{r.Kind, r.Policy.Kind}]++
	}
	if slices.Min(lengths) != 12 || slices.Max(lengths) != 99 {
		t.Errorf("the samples have %d to %d bytes, want 12 to 99", slices.Min(lengths), slices.Max(lengths))
	}
	for _, kind := range [][2]int{{1, 1}, {1, 2}, {2, 0}, {3, 0}} {
		if seen[kind] < 10 {
			t.Errorf("%d samples of the kinds %v, want 10 and more", seen[kind], kind)
		}
	}
}
