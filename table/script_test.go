package table_test

import (
	"fmt"
	"math/rand"
	"testing"
)

// script draws what a table is told; iterators are kept and gone through later, with more of the script in their steps.
type script struct {
	t     *testing.T
	r     *rand.Rand
	b     *both[int]
	key   func() string
	kept  []run
	depth int
	count int
	seen  map[string]int
}

func (s *script) note(what string) { s.seen[what]++ }

func (s *script) step() {
	s.t.Helper()
	s.count++
	key := s.key()
	switch s.r.Intn(16) {
	case 0, 1, 2, 3, 4:
		_, there := s.b.plain.get(key)
		s.note(fmt.Sprint("Put of one that is there ", there, ": ", s.b.put(s.t, key, s.count)))
	case 5, 6, 7, 8:
		s.note(fmt.Sprint("Delete ", s.b.remove(s.t, key)))
	case 9, 10:
		s.b.get(s.t, key)
	case 11:
		s.b.len(s.t)
	case 12:
		s.keep(allOf(s.b))
	case 13:
		s.keep(fromOf(s.b, key))
	default:
		s.goThroughOne()
	}
}

func (s *script) keep(x run) {
	if len(s.kept) > 20 {
		s.kept[s.r.Intn(len(s.kept))] = x
		return
	}
	s.kept = append(s.kept, x)
}

func (s *script) goThroughOne() {
	s.t.Helper()
	if s.depth == 3 || len(s.kept) == 0 {
		return
	}
	s.depth++
	most := whole
	if s.r.Intn(3) == 0 {
		most = s.r.Intn(6)
	}
	s.note(fmt.Sprint("going through at depth ", s.depth))
	s.kept[s.r.Intn(len(s.kept))].goThrough(s.t, most, func(int) {
		for range s.r.Intn(3) {
			s.step()
		}
	})
	s.depth--
}

// TestDrawnScripts over few keys, so that a limit is often met, and over many.
func TestDrawnScripts(t *testing.T) {
	seen := map[string]int{}
	for seed := range int64(60) {
		r := rand.New(rand.NewSource(seed))
		limit := []int{0, 1, 2, 3, 5, 8, 13, 30, greatest}[seed%9]
		s := script{t: t, r: r, b: bothOf[int](limit), key: func() string { return drawnKey(r) }, seen: seen}
		if seed%4 == 3 {
			s.key = func() string { return fmt.Sprintf("%x", r.Intn(150)) }
		}
		for s.count < 4000 {
			s.step()
			if s.r.Intn(40) == 0 {
				s.b.check(t, s.key(), s.key(), "")
			}
		}
		s.b.check(t, edgeKeys()...)
	}
	for _, what := range []string{
		"Put of one that is there true: true", "Put of one that is there false: true", "Put of one that is there false: false", "Delete true", "Delete false",
		"going through at depth 1", "going through at depth 2", "going through at depth 3",
	} {
		if seen[what] < 500 {
			t.Errorf("the scripts have had only %d times: %s", seen[what], what)
		}
	}
}

// TestLongScriptOfManyKeys grows and shrinks a table by turns; a running iterator that is far behind still has what there was.
func TestLongScriptOfManyKeys(t *testing.T) {
	r := rand.New(rand.NewSource(9))
	b := bothOf[int](700)
	for round := range 12 {
		for step := range 900 {
			key := fmt.Sprint(r.Intn(1000))
			if r.Intn(10) < 8 == (round%2 == 0) {
				b.put(t, key, step)
			} else {
				b.remove(t, key)
			}
		}
		b.check(t, "5", "50", "500", fmt.Sprint(round*90))
		fromOf(b, fmt.Sprint(round)).goThrough(t, whole, func(step int) {
			b.put(t, fmt.Sprint(r.Intn(1000)), -step)
			b.remove(t, fmt.Sprint(r.Intn(1000)))
		})
	}
	b.check(t, "5", "50", "500")
}
