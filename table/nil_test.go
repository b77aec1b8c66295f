package table_test

import (
	"iter"
	"testing"

	"turnstile/table"
)

// expectNil: a nil *Table does nothing and answers zero values.
func expectNil[V comparable](t *testing.T, v V) {
	t.Helper()
	var none V
	var m *table.Table[V]
	all, from := m.All(), m.From("a")
	if all == nil || from == nil {
		t.Fatal("P12.6: a nil *Table answers no iterator")
	}
	for range 2 {
		for _, key := range edgeKeys() {
			if m.Put(key, v) {
				t.Errorf("P12.3: Put(%q) of a nil *Table is true", key)
			}
			if got, ok := m.Get(key); got != none || ok {
				t.Errorf("P12.2: Get(%q) of a nil *Table is %v, %v", key, got, ok)
			}
			if m.Delete(key) {
				t.Errorf("P12.4: Delete(%q) of a nil *Table is true", key)
			}
			same(t, "From of a nil *Table", m.From(key), nil)
		}
		if n := m.Len(); n != 0 {
			t.Errorf("P12.5: Len of a nil *Table is %d", n)
		}
		for _, it := range []iter.Seq2[string, V]{all, from, m.All()} {
			for range 2 {
				same(t, "an iterator of a nil *Table", it, nil)
			}
		}
	}
}

func TestNilTables(t *testing.T) {
	x := 1
	expectNil(t, 5)
	expectNil(t, "text")
	expectNil(t, &x)
	expectNil(t, [2]int{1, 2})
	expectNil(t, struct {
		a int
		b string
	}{1, "b"})
	expectNil[any](t, 5)
}

// TestNilBesideOthers: what a nil *Table is told no other table sees, in its iterators neither.
func TestNilBesideOthers(t *testing.T) {
	var none *table.Table[int]
	b := filled(t, 6)
	allOf(b).goThrough(t, whole, func(int) {
		none.Put("x", 1)
		none.Delete("b")
		same(t, "All of a nil *Table", none.All(), nil)
	})
	b.check(t, "x")
}

// TestAnIteratorKeepsItsTable: the variable may be set to another table, or nil, and the iterator is of the table that it was made of.
func TestAnIteratorKeepsItsTable(t *testing.T) {
	m := table.New[int](2)
	m.Put("a", 1)
	all, from := m.All(), m.From("a")
	first := m
	m = table.New[int](2)
	m.Put("b", 2)
	first.Put("c", 3)
	same(t, "All", all, []pair[int]{{"a", 1}, {"c", 3}})
	m = nil
	same(t, "From", from, []pair[int]{{"a", 1}, {"c", 3}})
	same(t, "All of nil", m.All(), nil)
}
