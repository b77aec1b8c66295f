package state_test

import (
	"testing"

	"turnstile/api"
	"turnstile/state"
)

// The chapter's examples, written out.

func TestExampleOne(t *testing.T) {
	one, err := state.Apply(api.State{}, 1, define(5, "k", flow(10, 0)))
	if want := stateOf(1, 5, entry("k", flow(10, 0), api.Level{})); err != nil || !plainEqual(one, want) {
		t.Fatalf("P13.2: behind the define: %s, %v", tell(one), err)
	}
	two, err := state.Apply(one, 2, ceiling(3, "k", tat(30)))
	if want := stateOf(2, 5, entry("k", flow(10, 0), tat(30))); err != nil || !plainEqual(two, want) {
		t.Fatalf("P13.2: behind the ceiling: %s, %v", tell(two), err)
	}
	rows := []struct {
		lsn  uint64
		r    api.Record
		want api.State
		err  error
	}{
		{3, ceiling(0, "k", tat(20)), api.State{}, api.ErrLog},
		{3, ceiling(0, "k", tat(30)), stateOf(3, 5, entry("k", flow(10, 0), tat(30))), nil},
		{3, remove(0, "x"), api.State{}, api.ErrLog},
		{4, ceiling(0, "k", tat(30)), api.State{}, api.ErrGap},
		{4, remove(0, "k"), api.State{}, api.ErrGap},
		{3, remove(0, "k"), stateOf(3, 5), nil},
		{3, ceiling(0, "k", used(1, 0)), api.State{}, api.ErrLog},
		{3, remove(0, ""), api.State{}, api.ErrArg},
	}
	for _, row := range rows {
		if have, err := state.Apply(two, row.lsn, row.r); err != row.err || !plainEqual(have, row.want) {
			t.Errorf("P13.2: Apply as number %d of %s: %s, %v, want %s, %v", row.lsn, tellRecord(row.r), tell(have), err, tell(row.want), row.err)
		}
	}
}

func TestExampleTwo(t *testing.T) {
	two := stateOf(2, 5, entry("k", flow(10, 0), tat(30)))
	anything := api.Record{Kind: 99, Key: "?", Policy: grid(0, 0)}
	r := define(1, "k", flow(10, 0))
	rows := []struct {
		s       api.State
		first   uint64
		records []api.Record
		want    api.State
		err     error
	}{
		{two, 1, []api.Record{anything, anything, remove(0, "k")}, stateOf(3, 5), nil},
		{api.State{}, 2, []api.Record{r}, api.State{}, api.ErrGap},
		{api.State{}, 0, []api.Record{r}, api.State{}, api.ErrArg},
		{api.State{}, 0, nil, api.State{}, api.ErrArg},
		{two, 7, nil, two, nil},
		{two, 7, []api.Record{}, two, nil},
	}
	for _, row := range rows {
		if have, err := state.Replay(row.s, row.first, row.records); err != row.err || !plainEqual(have, row.want) {
			t.Errorf("P13.2: Replay(%s, %d, %s): %s, %v, want %s, %v", tell(row.s), row.first, tellRecords(row.records), tell(have), err, tell(row.want), row.err)
		}
	}
}

func TestExampleFour(t *testing.T) {
	s := api.State{Keys: []api.Entry{{Key: "a"}, {Key: "c"}}}
	rows := []struct {
		key   string
		at    int
		there bool
	}{{"b", 1, false}, {"c", 1, true}, {"", 0, false}, {"a", 0, true}, {"d", 2, false}}
	for _, row := range rows {
		if at, there := state.Find(s, row.key); at != row.at || there != row.there {
			t.Errorf("P13.1: Find(%q): %d, %v, want %d, %v", row.key, at, there, row.at, row.there)
		}
	}
}

func TestExampleFive(t *testing.T) {
	if !state.Equal(api.State{Keys: nil}, api.State{Keys: []api.Entry{}}) || !state.Equal(api.State{Keys: []api.Entry{}}, api.State{}) {
		t.Error("P13.1: Equal of no keys and an empty row is false")
	}
}
