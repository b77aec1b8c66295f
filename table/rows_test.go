package table_test

import (
	"fmt"
	"testing"
)

// TestEveryShortRow goes through all rows of five Puts and Deletes of three keys, at every limit that tells them apart; the values are the steps' numbers.
func TestEveryShortRow(t *testing.T) {
	keys := []string{"", "a", "a\x00"}
	kinds := 2 * len(keys)
	for limit := -1; limit <= 4; limit++ {
		for row := range kinds * kinds * kinds * kinds * kinds {
			b := bothOf[int](limit)
			rest := row
			for step := range 5 {
				key := keys[rest%kinds/2]
				if rest%2 == 0 {
					b.put(t, key, step+1)
				} else {
					b.remove(t, key)
				}
				rest /= kinds
			}
			b.check(t, "", "\x00", "a", "a\x00", "a\x00\x00", "b")
			if t.Failed() {
				t.Fatalf("in row %d at the limit %d", row, limit)
			}
		}
	}
}

// TestEveryOrderOfPutsAndDeletes puts up to six keys in every order, and takes them out in every order; those of more than four in each one that begins with the key put last.
func TestEveryOrderOfPutsAndDeletes(t *testing.T) {
	for n := 1; n <= 6; n++ {
		for _, in := range orders(n) {
			for _, out := range orders(n) {
				if n > 4 && out[0] != in[n-1] {
					continue
				}
				b := bothOf[int](n)
				for i, k := range in {
					b.put(t, fmt.Sprint(k), i)
				}
				b.check(t)
				for _, k := range out {
					b.remove(t, fmt.Sprint(k))
					b.check(t, fmt.Sprint(k))
				}
			}
		}
	}
}

// orders: every order of the numbers below n.
func orders(n int) [][]int {
	if n == 0 {
		return [][]int{nil}
	}
	var list [][]int
	for _, shorter := range orders(n - 1) {
		for i := range n {
			longer := append([]int{}, shorter[:i]...)
			list = append(list, append(append(longer, n-1), shorter[i:]...))
		}
	}
	return list
}
