package pack_test

import (
	"encoding/binary"
	"encoding/hex"
	"fmt"
	"math/rand"
	"strings"
	"testing"

	"turnstile/api"
	"turnstile/pack"
)

// The taking calls, as texts so that rows of them can be written down.
const takingCalls = "1248tn"

// take does one taking call of r and tells its answer as a text.
func take(r *pack.Reader, call rune) string {
	switch call {
	case '1':
		return fmt.Sprint(r.U8())
	case '2':
		return fmt.Sprint(r.U16())
	case '4':
		return fmt.Sprint(r.U32())
	case '8':
		return fmt.Sprint(r.U64())
	case 't':
		return fmt.Sprintf("%q", r.Text())
	}
	return fmt.Sprint(r.Number())
}

func nothing(call rune) string {
	if call == 't' {
		return `""`
	}
	return "0"
}

func fromHex(t *testing.T, s string) []byte {
	t.Helper()
	b, err := hex.DecodeString(s)
	if err != nil {
		t.Fatal(err)
	}
	return b
}

// expect asks for what the calls that change nothing answer, twice, since the first time must not change it.
func expect(t *testing.T, at string, r *pack.Reader, left int, fault error) {
	t.Helper()
	end := fault
	if fault == nil && left > 0 {
		end = api.ErrForm
	}
	for range 2 {
		if r.Left() != left || r.Err() != fault || r.End() != end {
			t.Fatalf("P1.2: %s: Left %d, Err %v, End %v; want %d, %v, %v", at, r.Left(), r.Err(), r.End(), left, fault, end)
		}
	}
}

func TestReaderCalls(t *testing.T) {
	rows := []struct {
		bytes, calls string
		answers      []string
		left         int
		fault        error
	}{
		{"0200616207", "t1", []string{`"ab"`, "7"}, 0, nil},
		{"050061", "t1", []string{`""`, "0"}, 3, api.ErrShort},
		{"01", "", nil, 1, nil},
		{"01", "1", []string{"1"}, 0, nil},
		{"", "", nil, 0, nil},
		{"ff80", "11", []string{"255", "128"}, 0, nil},
		{"0102ff", "2", []string{"513"}, 1, nil},
		{"01020384ff", "4", []string{"2214789633"}, 1, nil},
		{"0000000000000080ff", "8", []string{"9223372036854775808"}, 1, nil},
		{"0807060504030201", "8", []string{"72623859790382856"}, 0, nil},
		{"000000", "t", []string{`""`}, 1, nil},
		{"0100ff61", "t", []string{`"\xff"`}, 1, nil},
		{"ac020700", "n2", []string{"300", "7"}, 0, nil},
		{"", "1", []string{"0"}, 0, api.ErrShort},
		{"01", "2", []string{"0"}, 1, api.ErrShort},
		{"010203", "4", []string{"0"}, 3, api.ErrShort},
		{"01020304050607", "8", []string{"0"}, 7, api.ErrShort},
		{"", "t", []string{`""`}, 0, api.ErrShort},
		{"00", "t", []string{`""`}, 1, api.ErrShort},
		{"0100", "t", []string{`""`}, 2, api.ErrShort},
		{"ffff6161", "t", []string{`""`}, 4, api.ErrShort},
		{"00016161", "t", []string{`""`}, 4, api.ErrShort},
		{"05030061", "1t", []string{"5", `""`}, 3, api.ErrShort},
		{"808000", "n1", []string{"0", "0"}, 3, api.ErrForm},
		{"078000", "1n8", []string{"7", "0", "0"}, 2, api.ErrForm},
		{"0180", "1n1", []string{"1", "0", "0"}, 1, api.ErrShort},
	}
	for _, row := range rows {
		r := pack.NewReader(fromHex(t, row.bytes))
		for i, call := range row.calls {
			if have := take(r, call); have != row.answers[i] {
				t.Errorf("P1.2: %s: call %d of %s is %s, want %s", row.bytes, i, row.calls, have, row.answers[i])
			}
		}
		expect(t, row.bytes+" "+row.calls, r, row.left, row.fault)
	}
}

func TestReaderEndChangesNothing(t *testing.T) {
	r := pack.NewReader([]byte{1})
	if r.End() != api.ErrForm || r.Err() != nil || r.Left() != 1 {
		t.Errorf("P1.2: example 4: End %v, Err %v, Left %d", r.End(), r.Err(), r.Left())
	}
	if x := r.U8(); x != 1 || r.End() != nil || r.Err() != nil {
		t.Errorf("P1.2: example 4: U8 %d, End %v, Err %v", x, r.End(), r.Err())
	}
}

func TestNilReader(t *testing.T) {
	var r *pack.Reader
	for _, call := range takingCalls {
		if have := take(r, call); have != nothing(call) {
			t.Errorf("P1.2: a nil reader answers %s to %c", have, call)
		}
	}
	if r.Left() != 0 || r.Err() != api.ErrNil || r.End() != api.ErrNil {
		t.Errorf("P1.2: a nil reader: Left %d, Err %v, End %v", r.Left(), r.Err(), r.End())
	}
}

func TestNumberForms(t *testing.T) {
	nine := strings.Repeat("80", 9)
	ff := strings.Repeat("ff", 9)
	rows := []struct {
		bytes string
		x     uint64
		left  int
		fault error
	}{
		{"", 0, 0, api.ErrShort},
		{"80", 0, 1, api.ErrShort},
		{"ffff", 0, 2, api.ErrShort},
		{nine, 0, 9, api.ErrShort},
		{ff, 0, 9, api.ErrShort},
		{"00", 0, 0, nil},
		{"0000", 0, 1, nil},
		{"7f", 127, 0, nil},
		{"8001", 128, 0, nil},
		{"8101ff", 129, 1, nil},
		{ff[2:] + "7f", 1<<63 - 1, 0, nil},
		{nine + "01", 1 << 63, 0, nil},
		{ff + "01", 1<<64 - 1, 0, nil},
		{ff + "0180", 1<<64 - 1, 1, nil},
		{"8000", 0, 2, api.ErrForm},
		{"ff00", 0, 2, api.ErrForm},
		{"808000", 0, 3, api.ErrForm},
		{"80800001", 0, 4, api.ErrForm},
		{nine + "00", 0, 10, api.ErrForm},
		{ff + "00", 0, 10, api.ErrForm},
		{ff + "02", 0, 10, api.ErrForm},
		{nine + "7f", 0, 10, api.ErrForm},
		{nine + "80", 0, 10, api.ErrForm},
		{nine + "81", 0, 10, api.ErrForm},
		{ff + "ff", 0, 10, api.ErrForm},
		{nine + "8001", 0, 11, api.ErrForm},
		{ff + ff, 0, 18, api.ErrForm},
	}
	for _, row := range rows {
		r := pack.NewReader(fromHex(t, row.bytes))
		if x := r.Number(); x != row.x {
			t.Errorf("P1.2: Number of %s is %d, want %d", row.bytes, x, row.x)
		}
		expect(t, "Number of "+row.bytes, r, row.left, row.fault)
	}
	for tenth := range 256 {
		r := pack.NewReader(append(fromHex(t, nine), byte(tenth)))
		if x := r.Number(); (x == 1<<63) != (tenth == 1) || (r.Err() == nil) != (tenth == 1) {
			t.Errorf("P1.2: the tenth byte %d: %d, %v", tenth, x, r.Err())
		}
	}
}

// TestFaultStays meets a fault of each kind and does every pair of calls behind it, over bytes that each of them could take.
func TestFaultStays(t *testing.T) {
	rows := []struct {
		bytes string
		call  rune
		fault error
	}{
		{"", '1', api.ErrShort},
		{"00", '2', api.ErrShort},
		{"010000", '4', api.ErrShort},
		{"01000000000000", '8', api.ErrShort},
		{"ff0001020304050607080900", 't', api.ErrShort},
		{"8000000000000000000000", 'n', api.ErrForm},
		{"8080", 'n', api.ErrShort},
	}
	for _, row := range rows {
		b := fromHex(t, row.bytes)
		for _, second := range takingCalls {
			for _, third := range takingCalls {
				r := pack.NewReader(b)
				for _, call := range []rune{row.call, second, third} {
					at := fmt.Sprintf("%s, %c %c %c", row.bytes, row.call, second, third)
					if have := take(r, call); have != nothing(call) {
						t.Fatalf("P1.2: %s: %c is %s", at, call, have)
					}
					expect(t, at, r, len(b), row.fault)
				}
			}
		}
	}
}

// model says what a reader answers, by the library's own decoders.
type model struct {
	left  []byte
	fault error
}

func (m *model) take(call rune) string {
	if m.fault != nil {
		return nothing(call)
	}
	answer, size, fault := m.front(call)
	if fault != nil {
		m.fault = fault
		return nothing(call)
	}
	m.left = m.left[size:]
	return answer
}

func (m *model) front(call rune) (string, int, error) {
	size := strings.IndexRune(" 12 4   8", call)
	switch {
	case call == 't':
		return m.frontText()
	case call == 'n':
		return m.frontNumber()
	case size > len(m.left):
		return "", 0, api.ErrShort
	}
	var wide [8]byte
	copy(wide[:size], m.left)
	return fmt.Sprint(binary.LittleEndian.Uint64(wide[:])), size, nil
}

func (m *model) frontText() (string, int, error) {
	if len(m.left) < 2 {
		return "", 0, api.ErrShort
	}
	size := 2 + int(binary.LittleEndian.Uint16(m.left))
	if len(m.left) < size {
		return "", 0, api.ErrShort
	}
	return fmt.Sprintf("%q", string(m.left[2:size])), size, nil
}

func (m *model) frontNumber() (string, int, error) {
	x, size := binary.Uvarint(m.left)
	switch {
	case size == 0 && len(m.left) < 10:
		return "", 0, api.ErrShort
	case size <= 0 || len(binary.AppendUvarint(nil, x)) != size:
		return "", 0, api.ErrForm
	}
	return fmt.Sprint(x), size, nil
}

// randomBytes are of few unlike values, so that texts and numbers of many lengths come out of them.
func randomBytes(r *rand.Rand) []byte {
	values := []byte{0, 0, 1, 2, 3, 127, 128, 129, 255, byte(r.Intn(256))}
	b := make([]byte, r.Intn(40))
	for i := range b {
		b[i] = values[r.Intn(len(values))]
	}
	return b
}

func TestReaderAsTheModel(t *testing.T) {
	random := rand.New(rand.NewSource(2))
	for range 30000 {
		b := randomBytes(random)
		r, m := pack.NewReader(b), model{left: b}
		calls := ""
		for range random.Intn(12) {
			call := rune(takingCalls[random.Intn(len(takingCalls))])
			calls += string(call)
			at := fmt.Sprintf("%x, calls %s", b, calls)
			if have, want := take(r, call), m.take(call); have != want {
				t.Fatalf("P1.2: %s: %s, want %s", at, have, want)
			}
			expect(t, at, r, len(m.left), m.fault)
		}
	}
}

func TestReaderKeepsItsOwnBytes(t *testing.T) {
	b := []byte("\x02\x00ab\xac\x02\x07\x01\x02\x03\x04")
	kept := string(b)
	first, second := pack.NewReader(b), pack.NewReader(b)
	first.Text()
	first.Number()
	if string(b) != kept {
		t.Errorf("P1.4: the reader wrote into b: %x", b)
	}
	fill(b, 0xff)
	if first.U8() != 7 || first.U32() != 0x04030201 || first.End() != nil {
		t.Errorf("P1.4: the first reader sees what was written into b: %v", first.End())
	}
	first.U8()
	if first.Err() != api.ErrShort || second.Err() != nil || second.Left() != len(b) {
		t.Errorf("P1.4: the first reader's calls are seen in the second one: %v, %d left", second.Err(), second.Left())
	}
	if s := second.Text(); s != "ab" || second.Number() != 300 || second.Left() != 5 {
		t.Errorf("P1.4: the second reader: %q, %d left, %v", s, second.Left(), second.Err())
	}
}

func TestReaderLeavesSpareRoomAlone(t *testing.T) {
	room := []byte{1, 2, 3, 4, 5, 6, 7, 8}
	r := pack.NewReader(room[:3])
	if r.Left() != 3 || r.U32() != 0 || r.Err() != api.ErrShort {
		t.Errorf("P1.4: the reader takes from the spare room behind b: %d left, %v", r.Left(), r.Err())
	}
	if string(room) != "\x01\x02\x03\x04\x05\x06\x07\x08" {
		t.Errorf("P1.4: the reader wrote behind b: %x", room)
	}
}
