package table

// pair is a key with its value. It never changes once it is made.
type pair[V any] struct {
	key   string
	value V
}

// node is a tree of pairs in the order of their keys; nil is the one without any. It never changes once it is made: a tree with another pair, or with one less, is made of new nodes from its root down to that pair, and of the old ones beside this way. So an iterator that runs needs no copy of what it goes through. The heights of the two sides are at most 1 apart.
type node[V any] struct {
	pair   *pair[V]
	left   *node[V]
	right  *node[V]
	height int
}

// find: the pair of that key, nil if there is none.
func (n *node[V]) find(key string) *pair[V] {
	for n != nil {
		switch {
		case key < n.pair.key:
			n = n.left
		case key > n.pair.key:
			n = n.right
		default:
			return n.pair
		}
	}
	return nil
}

// with: the tree with p, in the place of the pair of the same key if there is one.
func (n *node[V]) with(p *pair[V]) *node[V] {
	switch {
	case n == nil:
		return over(p, nil, nil)
	case p.key < n.pair.key:
		return balanced(n.pair, n.left.with(p), n.right)
	case p.key > n.pair.key:
		return balanced(n.pair, n.left, n.right.with(p))
	default:
		return over(p, n.left, n.right)
	}
}

// without: the tree without the pair of that key, which is in it.
func (n *node[V]) without(key string) *node[V] {
	switch {
	case key < n.pair.key:
		return balanced(n.pair, n.left.without(key), n.right)
	case key > n.pair.key:
		return balanced(n.pair, n.left, n.right.without(key))
	case n.right == nil:
		return n.left
	default:
		next := n.right.first()
		return balanced(next, n.left, n.right.without(next.key))
	}
}

// first: the pair of the least key of a tree that has one.
func (n *node[V]) first() *pair[V] {
	for n.left != nil {
		n = n.left
	}
	return n.pair
}

// walk: yields the pairs from that key on; false if it was told to stop.
func (n *node[V]) walk(from string, yield func(string, V) bool) bool {
	if n == nil {
		return true
	}
	if n.pair.key < from {
		return n.right.walk(from, yield)
	}
	return n.left.walk(from, yield) && yield(n.pair.key, n.pair.value) && n.right.walk(from, yield)
}

// high: the height of a tree.
func (n *node[V]) high() int {
	if n == nil {
		return 0
	}
	return n.height
}

// over: the tree of a pair and what stands to both sides of it.
func over[V any](p *pair[V], left, right *node[V]) *node[V] {
	return &node[V]{p, left, right, 1 + max(left.high(), right.high())}
}

// balanced: likewise, turned if the sides' heights are 2 apart.
func balanced[V any](p *pair[V], left, right *node[V]) *node[V] {
	switch {
	case left.high() > right.high()+1:
		if left.left.high() < left.right.high() {
			left = turnedLeft(left)
		}
		return turnedRight(over(p, left, right))
	case right.high() > left.high()+1:
		if right.right.high() < right.left.high() {
			right = turnedRight(right)
		}
		return turnedLeft(over(p, left, right))
	default:
		return over(p, left, right)
	}
}

// turnedLeft: the same pairs under the root of the right side.
func turnedLeft[V any](n *node[V]) *node[V] {
	return over(n.right.pair, over(n.pair, n.left, n.right.left), n.right.right)
}

// turnedRight: the same pairs under the root of the left side.
func turnedRight[V any](n *node[V]) *node[V] {
	return over(n.left.pair, n.left.left, over(n.pair, n.left.right, n.right))
}
