package table_test

import (
	"errors"
	"math"
	"slices"
	"testing"

	"turnstile/api"
	"turnstile/table"
)

// keeps puts values of one type in the place of each other and beside each other, and holds what comes back by equal.
func keeps[V any](t *testing.T, what string, first, second V, equal func(a, b V) bool) {
	t.Helper()
	var none V
	m := table.New[V](2)
	expect := func(step, key string, want V, there bool) {
		t.Helper()
		if v, ok := m.Get(key); !equal(v, want) || ok != there {
			t.Errorf("P12.2: %s: %s: Get(%q) is %v, %v, want %v, %v", what, step, key, v, ok, want, there)
		}
	}
	yields := func(step string, want ...V) {
		t.Helper()
		var got []V
		for _, v := range m.All() {
			got = append(got, v)
		}
		if !slices.EqualFunc(got, want, equal) {
			t.Errorf("P12.6: %s: %s: All yields %v, want %v", what, step, got, want)
		}
	}
	expect("ahead of all", "a", none, false)
	m.Put("a", first)
	expect("one Put", "a", first, true)
	expect("one Put", "b", none, false)
	m.Put("a", second)
	expect("another value", "a", second, true)
	yields("another value", second)
	m.Put("b", first)
	expect("a key beside it", "a", second, true)
	expect("a key beside it", "b", first, true)
	yields("a key beside it", second, first)
	if m.Put("c", first) {
		t.Errorf("P12.3: %s: a third key of two", what)
	}
	expect("a refused Put", "c", none, false)
	m.Put("b", none)
	expect("the zero value", "b", none, true)
	yields("the zero value", second, none)
	m.Delete("a")
	expect("a Delete", "a", none, false)
	yields("a Delete", none)
	m.Put("a", first)
	expect("a Put behind a Delete", "a", first, true)
	yields("a Put behind a Delete", first, none)
}

func keepsSame[V comparable](t *testing.T, what string, first, second V) {
	t.Helper()
	keeps(t, what, first, second, func(a, b V) bool { return a == b })
}

type wide struct {
	number uint64
	text   string
	deep   struct{ x, y [3]int8 }
	any    any
}

func TestValuesOfEveryKind(t *testing.T) {
	x, y := 1, 1
	keepsSame(t, "int", least, greatest)
	keepsSame(t, "uint8", uint8(255), 1)
	keepsSame(t, "uint64", uint64(math.MaxUint64), 1<<63)
	keepsSame(t, "bool", true, false)
	keepsSame(t, "rune", 'a', -1)
	keepsSame(t, "complex128", complex(1, -2), complex(-1, 2))
	keepsSame(t, "string", "\x00\xff", "a longer text than the other")
	keepsSame(t, "pointer", &x, &y)
	keepsSame(t, "array", [3]int{1, 2, 3}, [3]int{3, 2, 1})
	keepsSame(t, "no field at all", struct{}{}, struct{}{})
	keepsSame(t, "struct", wide{number: 1, text: "a", any: 5}, wide{number: 2, text: "b", any: "5"})
	keepsSame(t, "api.Entry", api.Entry{Key: "k", Policy: api.Policy{Kind: api.Flow, Gap: 1}}, api.Entry{Key: "l", Level: api.Level{Tat: 3}})
	keepsSame(t, "any", any(7), any([2]string{"a", "b"}))
	keepsSame(t, "error", api.ErrArg, errors.New("another one"))
	keepsSame(t, "channel", make(chan int), make(chan int, 3))
	keepsSame(t, "table", table.New[int](3), table.New[int](4))
	keeps(t, "float64", math.Copysign(0, -1), math.NaN(), func(a, b float64) bool { return math.Float64bits(a) == math.Float64bits(b) })
	keeps(t, "list", []int{1, 2}, []int{}, func(a, b []int) bool { return slices.Equal(a, b) && (a == nil) == (b == nil) })
	keeps(t, "map", map[string]int{"a": 1}, map[string]int{}, func(a, b map[string]int) bool {
		return len(a) == len(b) && a["a"] == b["a"] && (a == nil) == (b == nil)
	})
	keeps(t, "function", func() int { return 1 }, func() int { return 2 }, func(a, b func() int) bool {
		return (a == nil) == (b == nil) && (a == nil || a() == b())
	})
}

// TestListsAndPointersAreTheCallers: what they point at is seen as the caller changes it; how long a list is, is the value.
func TestListsAndPointersAreTheCallers(t *testing.T) {
	lists := table.New[[]int](3)
	list := make([]int, 2, 8)
	lists.Put("a", list)
	list[0] = 7
	list = append(list, 9)
	got, _ := lists.Get("a")
	if len(got) != 2 || cap(got) != 8 || got[0] != 7 || &got[0] != &list[0] {
		t.Errorf("P12.2: a list comes back as %v with the room of %d", got, cap(got))
	}
	for _, v := range lists.All() {
		if len(v) != 2 || &v[0] != &list[0] {
			t.Errorf("P12.6: a list is yielded as %v", v)
		}
		v[1] = 8
	}
	if list[1] != 8 || list[2] != 9 {
		t.Errorf("P12.6: the caller's list is %v", list)
	}

	type thing struct{ x int }
	things := table.New[*thing](3)
	one := &thing{1}
	things.Put("a", one)
	things.Put("b", one)
	one.x = 2
	for key, v := range things.All() {
		if v != one || v.x != 2 {
			t.Errorf("P12.6: a pointer is yielded as another one under %q", key)
		}
	}
	things.Put("a", nil)
	if v, ok := things.Get("a"); v != nil || !ok {
		t.Error("P12.2: nil under a key isn't nil and true")
	}
}

// TestStructsAndArraysAreCopies: what is done to a copy that was put, answered or yielded isn't seen in the table.
func TestStructsAndArraysAreCopies(t *testing.T) {
	type row struct {
		cells [4]int
		name  string
	}
	m := table.New[row](3)
	v := row{[4]int{1, 2, 3, 4}, "first"}
	want := v
	m.Put("a", v)
	m.Put("b", v)
	v.cells[0], v.name = 9, "changed"
	got, _ := m.Get("a")
	got.cells[1], got.name = 9, "changed"
	for key, v := range m.All() {
		if v != want {
			t.Errorf("P12.6: %q yields %v, want %v", key, v, want)
		}
		v.cells[2] = 9
		pointed := &v
		pointed.name = "changed"
	}
	for _, key := range []string{"a", "b"} {
		if got, ok := m.Get(key); got != want || !ok {
			t.Errorf("P12.2: Get(%q) is %v, want %v", key, got, want)
		}
	}
	for _, v := range m.From("a") { // the value that the going through has is the one from its beginning
		v.cells[3] = 9
		m.Put("b", v)
	}
	if got, _ := m.Get("a"); got != want {
		t.Errorf("P12.2: Get is %v, want %v", got, want)
	}
}

// TestTablesInATable, changed through what is yielded.
func TestTablesInATable(t *testing.T) {
	outer := table.New[*table.Table[int]](3)
	for _, key := range []string{"b", "a", "c"} {
		outer.Put(key, table.New[int](2))
	}
	for range 2 {
		for key, inner := range outer.All() {
			inner.Put(key, inner.Len()+1)
			inner.Put("x", 5)
			inner.Put("y", 6)
		}
	}
	for key, inner := range outer.All() {
		same(t, "All of an inner table", inner.All(), []pair[int]{{key, 3}, {"x", 5}})
	}
}
