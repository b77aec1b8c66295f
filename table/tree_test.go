package table

import (
	"fmt"
	"math/rand"
	"testing"
)

// lawful: how high a tree is by going through it, whether each node's height is that, and the sides of each are at most 1 apart.
func lawful[V any](n *node[V]) (int, bool) {
	if n == nil {
		return 0, true
	}
	left, fine := lawful(n.left)
	right, good := lawful(n.right)
	high := 1 + max(left, right)
	return high, fine && good && n.height == high && left-right <= 1 && right-left <= 1
}

// TestTreesStayBalanced: no answer tells it, but how long each call takes hangs on it.
func TestTreesStayBalanced(t *testing.T) {
	for seed := range int64(30) {
		r := rand.New(rand.NewSource(seed))
		m := New[int](300)
		for step := range 2000 {
			key := fmt.Sprintf("%03d", r.Intn(400))
			switch { // growing at one end, at the other one, and anywhere; shrinking likewise
			case step < 150:
				key = fmt.Sprintf("%03d", 200+step)
				m.Put(key, step)
			case step < 300:
				key = fmt.Sprintf("%03d", 300-step)
				m.Put(key, step)
			case r.Intn(2) == step/400%2:
				m.Put(key, step)
			default:
				m.Delete(key)
			}
			if _, ok := lawful(m.root); !ok {
				t.Fatalf("behind step %d of script %d, with %q, the tree is out of balance", step, seed, key)
			}
		}
	}
}

// TestSharedNodesStay: a tree that was left behind stays as it was, whatever is made of it.
func TestSharedNodesStay(t *testing.T) {
	r := rand.New(rand.NewSource(3))
	m := New[int](60)
	for step := range 3000 {
		before, count, told := m.root, m.count, ""
		for key, v := range m.All() {
			told += fmt.Sprint(key, " ", v, " ")
		}
		if key := fmt.Sprint(r.Intn(90)); r.Intn(2) == 0 {
			m.Put(key, step)
		} else {
			m.Delete(key)
		}
		again := ""
		before.walk("", func(key string, v int) bool {
			count--
			again += fmt.Sprint(key, " ", v, " ")
			return true
		})
		if again != told || count != 0 {
			t.Fatalf("behind step %d the tree ahead of it holds %s, want %s", step, again, told)
		}
	}
}
