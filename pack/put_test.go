package pack_test

import (
	"bytes"
	"encoding/binary"
	"encoding/hex"
	"fmt"
	"math/rand"
	"strings"
	"testing"

	"turnstile/api"
	"turnstile/pack"
)

// put is one call of a Put function, its last argument filled in, and the bytes that it must put behind b.
type put struct {
	name string
	call func(b []byte) []byte
	want []byte
}

func putU16(x uint16) put {
	call := func(b []byte) []byte { return pack.PutU16(b, x) }
	return put{fmt.Sprintf("PutU16 %d", x), call, binary.LittleEndian.AppendUint16(nil, x)}
}

func putU32(x uint32) put {
	call := func(b []byte) []byte { return pack.PutU32(b, x) }
	return put{fmt.Sprintf("PutU32 %d", x), call, binary.LittleEndian.AppendUint32(nil, x)}
}

func putU64(x uint64) put {
	call := func(b []byte) []byte { return pack.PutU64(b, x) }
	return put{fmt.Sprintf("PutU64 %d", x), call, binary.LittleEndian.AppendUint64(nil, x)}
}

func putNumber(x uint64) put {
	call := func(b []byte) []byte { return pack.PutNumber(b, x) }
	return put{fmt.Sprintf("PutNumber %d", x), call, binary.AppendUvarint(nil, x)}
}

func putText(s string) put {
	call := func(b []byte) []byte {
		out, err := pack.PutText(b, s)
		if err != nil {
			panic(err)
		}
		return out
	}
	want := append(binary.LittleEndian.AppendUint16(nil, uint16(len(s))), s...)
	return put{fmt.Sprintf("PutText of %d bytes", len(s)), call, want}
}

// edgeNumbers: the ends of every width in bits and in groups of seven, and their neighbours.
func edgeNumbers() []uint64 {
	list := []uint64{0, 1, 2, 300, 513, 1<<64 - 1, 1<<64 - 2, 0x0123456789abcdef, 0xfedcba9876543210}
	for bit := 1; bit < 64; bit++ {
		list = append(list, 1<<bit-1, 1<<bit, 1<<bit+1)
	}
	return list
}

func edgeTexts() []string {
	list := []string{"", "a", "ab", "\x00", "\xff\x80\x00", "zwölf", "\xc3"}
	for _, length := range []int{64, 127, 128, 200, 255, 256, 257, 32768, 65534, 65535} {
		list = append(list, strings.Repeat("xyz", length)[:length])
	}
	return list
}

func edgePuts() []put {
	var list []put
	for _, x := range edgeNumbers() {
		list = append(list, putU16(uint16(x)), putU32(uint32(x)), putU64(x), putNumber(x))
	}
	for _, s := range edgeTexts() {
		list = append(list, putText(s))
	}
	return list
}

func randomPut(r *rand.Rand) put {
	x := r.Uint64() >> r.Intn(64)
	switch r.Intn(5) {
	case 0:
		return putU16(uint16(x))
	case 1:
		return putU32(uint32(x))
	case 2:
		return putU64(x)
	case 3:
		return putNumber(x)
	}
	s := make([]byte, r.Intn(9))
	r.Read(s)
	return putText(string(s))
}

func TestPutExamples(t *testing.T) {
	rows := []struct {
		name string
		have []byte
		want string
	}{
		{"PutU16(nil, 513)", pack.PutU16(nil, 513), "0102"},
		{"PutU32([aa], 1)", pack.PutU32([]byte{0xaa}, 1), "aa01000000"},
		{"PutU64(nil, 2^63)", pack.PutU64(nil, 1<<63), "0000000000000080"},
		{"PutText(nil, ab)", putText("ab").call(nil), "02006162"},
		{"PutText([07], \"\")", putText("").call([]byte{7}), "070000"},
		{"PutNumber(nil, 0)", pack.PutNumber(nil, 0), "00"},
		{"PutNumber(nil, 127)", pack.PutNumber(nil, 127), "7f"},
		{"PutNumber(nil, 128)", pack.PutNumber(nil, 128), "8001"},
		{"PutNumber(nil, 300)", pack.PutNumber(nil, 300), "ac02"},
		{"PutNumber(nil, 2^63)", pack.PutNumber(nil, 1<<63), strings.Repeat("80", 9) + "01"},
		{"PutNumber(nil, 2^64 - 1)", pack.PutNumber(nil, 1<<64-1), strings.Repeat("ff", 9) + "01"},
	}
	for _, row := range rows {
		if have := hex.EncodeToString(row.have); have != row.want {
			t.Errorf("P1.1: %s is %s, want %s", row.name, have, row.want)
		}
	}
}

func TestPutBytes(t *testing.T) {
	puts := edgePuts()
	random := rand.New(rand.NewSource(1))
	for range 5000 {
		puts = append(puts, randomPut(random))
	}
	starts := [][]byte{nil, {}, {0xaa}, []byte("front"), bytes.Repeat([]byte{0x80}, 700)}
	for _, p := range puts {
		for _, b := range starts {
			want := append(bytes.Clone(b), p.want...)
			if have := p.call(b); !bytes.Equal(have, want) {
				t.Fatalf("P1.1: %s behind %d bytes is %.40x, want %.40x", p.name, len(b), have, want)
			}
		}
	}
}

func TestPutTextTooLong(t *testing.T) {
	b := []byte{1, 2, 3, 4}[:2]
	for _, length := range []int{65536, 65537, 65538, 70000, 1 << 17, 1<<17 + 5, 1 << 20} {
		out, err := pack.PutText(b, strings.Repeat("x", length))
		if err != api.ErrLong || len(out) != 0 {
			t.Errorf("P1.1: a text of %d bytes: %d bytes, %v", length, len(out), err)
		}
		if !bytes.Equal(b[:4], []byte{1, 2, 3, 4}) {
			t.Errorf("P1.1: a text of %d bytes was written into b: %x", length, b[:4])
		}
	}
	if out, err := pack.PutText(b, strings.Repeat("x", 65535)); err != nil || len(out) != 2+2+65535 {
		t.Errorf("P1.1: a text of 65535 bytes: %d bytes, %v", len(out), err)
	}
}

// startsWithRoom: beginnings of unlike lengths and spare rooms, filled with a mark, the room too.
func startsWithRoom() [][]byte {
	var list [][]byte
	for _, length := range []int{0, 1, 5, 8} {
		for _, room := range []int{0, 1, 2, 3, 10, 11, 64} {
			list = append(list, bytes.Repeat([]byte{0x5a}, length+room)[:length])
		}
	}
	return list
}

func whole(b []byte) []byte { return b[:cap(b)] }

func fill(b []byte, mark byte) {
	for i := range b {
		b[i] = mark
	}
}

func TestPutAnswersNewMemory(t *testing.T) {
	puts := []put{putU16(513), putU32(70000), putU64(1 << 40), putNumber(0), putNumber(300), putNumber(1<<64 - 1), putText(""), putText("ab")}
	for _, p := range puts {
		for _, b := range startsWithRoom() {
			at := fmt.Sprintf("P1.1: %s, %d bytes and %d spare", p.name, len(b), cap(b)-len(b))
			ahead := bytes.Clone(whole(b))
			want := append(bytes.Clone(b), p.want...)
			first, second := p.call(b), p.call(b)
			if !bytes.Equal(whole(b), ahead) {
				t.Fatalf("%s: b was written: %x", at, whole(b))
			}
			fill(whole(first), 0x11)
			if !bytes.Equal(whole(b), ahead) {
				t.Fatalf("%s: the answer shares memory with b", at)
			}
			fill(whole(b), 0x22)
			if !bytes.Equal(second, want) {
				t.Fatalf("%s: the answer shares memory with b or with another answer", at)
			}
		}
	}
}
