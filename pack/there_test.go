package pack_test

import (
	"bytes"
	"fmt"
	"math/rand"
	"testing"

	"turnstile/api"
	"turnstile/pack"
)

// item is what was put by one call, how it is taken, and what the taking call tells.
type item struct {
	put
	taken  rune
	answer string
}

func edgeItems() []item {
	var list []item
	for _, x := range edgeNumbers() {
		list = append(list,
			item{putU16(uint16(x)), '2', fmt.Sprint(uint16(x))},
			item{putU32(uint32(x)), '4', fmt.Sprint(uint32(x))},
			item{putU64(x), '8', fmt.Sprint(x)},
			item{putNumber(x), 'n', fmt.Sprint(x)})
	}
	for _, s := range edgeTexts() {
		list = append(list, item{putText(s), 't', fmt.Sprintf("%q", s)})
	}
	return list
}

func putAll(items []item) []byte {
	var b []byte
	for _, it := range items {
		b = it.call(b)
	}
	return b
}

func takeAll(t *testing.T, r *pack.Reader, items []item) {
	t.Helper()
	for _, it := range items {
		if have := take(r, it.taken); have != it.answer {
			t.Fatalf("P1.3: %s is taken as %.40s, want %.40s", it.name, have, it.answer)
		}
	}
}

func TestThereAndBack(t *testing.T) {
	edges := edgeItems()
	r := pack.NewReader(putAll(edges))
	takeAll(t, r, edges)
	expect(t, "what was put, all taken", r, 0, nil)
	random := rand.New(rand.NewSource(3))
	for range 300 {
		items := make([]item, random.Intn(20))
		for i := range items {
			items[i] = edges[random.Intn(len(edges))]
		}
		r := pack.NewReader(putAll(items))
		takeAll(t, r, items)
		expect(t, "what was put, all taken", r, 0, nil)
	}
}

// TestEveryBeginning cuts what was put at every place: the items ahead of the cut are taken, the one in which it lies is short.
func TestEveryBeginning(t *testing.T) {
	items := []item{
		{putNumber(1<<64 - 1), 'n', "18446744073709551615"},
		{putU16(513), '2', "513"},
		{putText("ab\x80"), 't', `"ab\x80"`},
		{putU64(1 << 63), '8', "9223372036854775808"},
		{putNumber(300), 'n', "300"},
		{putText(""), 't', `""`},
		{putU32(1 << 31), '4', "2147483648"},
		{putNumber(0), 'n', "0"},
	}
	b := putAll(items)
	for cut := range b {
		r := pack.NewReader(b[:cut])
		left := cut
		for i, it := range items {
			if left < len(it.want) {
				if have := take(r, it.taken); have != nothing(it.taken) {
					t.Fatalf("P1.3: %d bytes: item %d, cut, is taken as %s", cut, i, have)
				}
				break
			}
			takeAll(t, r, items[i:i+1])
			left -= len(it.want)
		}
		expect(t, fmt.Sprintf("the first %d bytes", cut), r, left, api.ErrShort)
	}
}

// TestNumberHasOneForm asks every row of one and of two bytes, and longer rows of few values: what Number takes is what PutNumber puts.
func TestNumberHasOneForm(t *testing.T) {
	oneForm := func(b []byte) {
		r := pack.NewReader(b)
		x := r.Number()
		if r.Err() != nil {
			return
		}
		if taken := b[:len(b)-r.Left()]; !bytes.Equal(taken, pack.PutNumber(nil, x)) {
			t.Fatalf("P1.3: %x is taken for %d, which is put as %x", taken, x, pack.PutNumber(nil, x))
		}
	}
	for first := range 256 {
		oneForm([]byte{byte(first)})
		for second := range 256 {
			oneForm([]byte{byte(first), byte(second)})
			for _, third := range []byte{0, 1, 127, 128, 129, 255} {
				oneForm([]byte{byte(first), byte(second), third})
			}
		}
	}
	random := rand.New(rand.NewSource(4))
	values := []byte{128, 128, 255, 129, 0, 1, 2, 127}
	for range 50000 {
		b := bytes.Repeat([]byte{128}, 12)
		for i := random.Intn(12); i < 12; i++ {
			b[i] = values[random.Intn(len(values))]
		}
		oneForm(b)
	}
}
