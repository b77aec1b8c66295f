package table_test

import (
	"fmt"
	"iter"
	"math/rand"
	"slices"
	"testing"

	"turnstile/table"
)

const (
	least    = -1 << 63
	greatest = 1<<63 - 1
)

type pair[V any] struct {
	key   string
	value V
}

// ahead is the order of texts as the document writes it: by their bytes as numbers, the shorter first where one begins the other.
func ahead(a, b string) bool {
	for i := 0; i < len(a) && i < len(b); i++ {
		if a[i] != b[i] {
			return a[i] < b[i]
		}
	}
	return len(a) < len(b)
}

func byKey[V any](a, b pair[V]) int {
	switch {
	case ahead(a.key, b.key):
		return -1
	case ahead(b.key, a.key):
		return 1
	}
	return 0
}

// plain is a table as the chapter's words have it: its pairs in no order, gone through one by one.
type plain[V any] struct {
	limit int
	pairs []pair[V]
}

func (p *plain[V]) place(key string) int {
	return slices.IndexFunc(p.pairs, func(x pair[V]) bool { return x.key == key })
}

func (p *plain[V]) get(key string) (V, bool) {
	if i := p.place(key); i >= 0 {
		return p.pairs[i].value, true
	}
	var none V
	return none, false
}

func (p *plain[V]) put(key string, v V) bool {
	if i := p.place(key); i >= 0 {
		p.pairs[i].value = v
		return true
	}
	if len(p.pairs) < p.limit {
		p.pairs = append(p.pairs, pair[V]{key, v})
		return true
	}
	return false
}

func (p *plain[V]) remove(key string) bool {
	if i := p.place(key); i >= 0 {
		p.pairs[i] = p.pairs[len(p.pairs)-1]
		p.pairs = p.pairs[:len(p.pairs)-1]
		return true
	}
	return false
}

func (p *plain[V]) all() []pair[V] {
	return slices.SortedFunc(slices.Values(p.pairs), byKey)
}

func (p *plain[V]) from(key string) []pair[V] {
	return slices.DeleteFunc(p.all(), func(x pair[V]) bool { return ahead(x.key, key) })
}

// both is a table and the plain one, which are told the same.
type both[V comparable] struct {
	table *table.Table[V]
	plain plain[V]
}

func bothOf[V comparable](limit int) *both[V] {
	return &both[V]{table.New[V](limit), plain[V]{limit: limit}}
}

func (b *both[V]) put(t *testing.T, key string, v V) bool {
	t.Helper()
	want := b.plain.put(key, v)
	if got := b.table.Put(key, v); got != want {
		t.Fatalf("P12.3: Put(%q, %v) is %v, want %v; %d keys of %d", key, v, got, want, len(b.plain.pairs), b.plain.limit)
	}
	return want
}

func (b *both[V]) remove(t *testing.T, key string) bool {
	t.Helper()
	want := b.plain.remove(key)
	if got := b.table.Delete(key); got != want {
		t.Fatalf("P12.4: Delete(%q) is %v, want %v", key, got, want)
	}
	return want
}

func (b *both[V]) get(t *testing.T, key string) {
	t.Helper()
	want, there := b.plain.get(key)
	if got, ok := b.table.Get(key); got != want || ok != there {
		t.Fatalf("P12.2: Get(%q) is %v, %v, want %v, %v", key, got, ok, want, there)
	}
}

func (b *both[V]) len(t *testing.T) {
	t.Helper()
	if got := b.table.Len(); got != len(b.plain.pairs) {
		t.Fatalf("P12.5: Len is %d, want %d", got, len(b.plain.pairs))
	}
}

// check holds all that a table answers against the plain one, of those keys and of those that it has.
func (b *both[V]) check(t *testing.T, keys ...string) {
	t.Helper()
	b.len(t)
	for _, p := range b.plain.pairs {
		b.get(t, p.key)
	}
	for _, key := range keys {
		b.get(t, key)
		same(t, fmt.Sprintf("From(%q)", key), b.table.From(key), b.plain.from(key))
	}
	same(t, "All", b.table.All(), b.plain.all())
}

// same goes through an iterator, and holds what it yields against what it has to yield.
func same[V comparable](t *testing.T, what string, it iter.Seq2[string, V], want []pair[V]) {
	t.Helper()
	if got := collect(it); !slices.Equal(got, want) {
		t.Fatalf("P12.6: %s yields %v, want %v", what, told(got), told(want))
	}
}

func collect[V any](it iter.Seq2[string, V]) []pair[V] {
	var list []pair[V]
	for k, v := range it {
		list = append(list, pair[V]{k, v})
	}
	return list
}

func told[V any](list []pair[V]) string {
	s := ""
	for i, p := range list {
		if i == 20 {
			return s + fmt.Sprintf("and %d more", len(list)-i)
		}
		s += fmt.Sprintf("%q %v, ", p.key, p.value)
	}
	return s
}

// edgeKeys: the empty key, keys that begin alike, keys with any bytes in them, the least and the greatest ones at their ends, no letters at all, long ones; in their order.
func edgeKeys() []string {
	long := string(slices.Repeat([]byte("k"), 300))
	return []string{
		"", "\x00", "\x00\x00", "\x00\x00\xff", "\x00a", "\x00\xff", "\x01", " ", "0", "00", "10", "2", "A", "B",
		"a", "a\x00", "a\x00\x00", "a\x00b", "a\x01", "aA", "aa", "aa\x00", "aaa", "aa\xff", "ab", "a\x7f", "a\x80", "a\xff", "a\xff\x00", "a\xff\xff", "b",
		long[:64], long[:64] + "\x00", long[:65], long, long + "\x00", long + "\xff", "k\xff",
		"\x7f", "\x7f\xff", "\x80", "\x80\x00", "\xc3", "\xc3\x28", "\u00e9", "\u65e5\u672c", "\xfe", "\xfe\xff", "\xff", "\xff\x00", "\xff\x7f", "\xff\xff", "\xff\xff\xff",
	}
}

// around: a key and its neighbours, so that From is asked of keys that are there and of such that lie between those.
func around(key string) []string {
	list := []string{key, key + "\x00", key + "\x01", key + "\xff"}
	if end := len(key) - 1; end >= 0 {
		last := key[end]
		list = append(list, key[:end], key[:end]+string([]byte{last - 1}), key[:end]+string([]byte{last + 1}), key[:end]+"\xff\xff\xff\xff")
	}
	return list
}

// drawnKey: out of few short ones, so that they are often there.
func drawnKey(r *rand.Rand) string {
	letters := "\x00a\xff"
	b := make([]byte, r.Intn(4))
	for i := range b {
		b[i] = letters[r.Intn(len(letters))]
	}
	return string(b)
}

func TestEdgeKeysAreInTheirOrder(t *testing.T) {
	keys := edgeKeys()
	for i, a := range keys {
		for j, b := range keys {
			if ahead(a, b) != (i < j) {
				t.Errorf("the plain order has %q ahead of %q: %v", a, b, !(i < j))
			}
		}
	}
}
