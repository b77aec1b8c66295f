package table_test

import (
	"slices"
	"testing"

	"turnstile/table"
)

func TestExamples(t *testing.T) {
	m := table.New[int](2)
	for i, row := range []struct {
		key  string
		v    int
		want bool
	}{{"b", 1, true}, {"a", 2, true}, {"c", 3, false}, {"b", 4, true}} {
		if got := m.Put(row.key, row.v); got != row.want {
			t.Errorf("P12.3: %d: Put(%q, %d) is %v", i, row.key, row.v, got)
		}
	}
	if n := m.Len(); n != 2 {
		t.Errorf("P12.5: Len is %d, want 2", n)
	}
	same(t, "All", m.All(), []pair[int]{{"a", 2}, {"b", 4}})
	if v, ok := m.Get("c"); v != 0 || ok {
		t.Errorf("P12.2: Get of none is %d, %v", v, ok)
	}

	first, second := m.Delete("a"), m.Delete("a")
	if !first || second {
		t.Errorf("P12.4: Delete twice is %v, %v", first, second)
	}
	if !m.Put("", 5) {
		t.Error("P12.3: Put of the empty key behind a Delete is false")
	}
	two := []pair[int]{{"", 5}, {"b", 4}}
	same(t, "All", m.All(), two)
	same(t, "From(a)", m.From("a"), two[1:])
	same(t, "From of the empty text", m.From(""), two)
	same(t, "From(b)", m.From("b"), two[1:])
	same(t, "From behind b", m.From("b\x00"), nil)

	it := m.All()
	m.Delete("")
	same(t, "an iterator from ahead of a Delete", it, two[1:])
	var seen []string
	for key := range it {
		seen = append(seen, key)
		m.Delete("b")
	}
	if !slices.Equal(seen, []string{"b"}) || m.Len() != 0 {
		t.Errorf("P12.6: with a Delete in its first step an iterator yields %q, and Len is %d", seen, m.Len())
	}
	same(t, "the same iterator once more", it, nil)
}

func TestExamplesWithoutRoom(t *testing.T) {
	for _, limit := range []int{0, -5} {
		if table.New[string](limit).Put("a", "x") {
			t.Errorf("P12.1: New(%d) has taken a key", limit)
		}
	}
}

func TestExampleOfTheOrder(t *testing.T) {
	m := table.New[bool](4)
	for _, key := range []string{"a", "B", "\xff", "aa"} {
		m.Put(key, true)
	}
	same(t, "All", m.All(), []pair[bool]{{"B", true}, {"a", true}, {"aa", true}, {"\xff", true}})
}
