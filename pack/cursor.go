package pack

import "turnstile/api"

// cursor has the bytes that are left, and the first fault. A call that meets a fault takes nothing, and so does every one behind it.
type cursor struct {
	left  []byte
	fault error
}

func (c *cursor) take(size int) []byte {
	if c.fault != nil {
		return nil
	}
	if size > len(c.left) {
		c.fault = api.ErrShort
		return nil
	}
	taken := c.left[:size]
	c.left = c.left[size:]
	return taken
}

func (c *cursor) whole(size int) uint64 {
	var x uint64
	for i, b := range c.take(size) {
		x |= uint64(b) << (8 * i)
	}
	return x
}

func (c *cursor) text() string {
	ahead := c.left
	length := c.whole(2)
	taken := c.take(int(length))
	if c.fault != nil {
		c.left = ahead // a text that isn't whole gives its length back, too
		return ""
	}
	return string(taken)
}

func (c *cursor) number() uint64 {
	if c.fault != nil {
		return 0
	}
	x, size, fault := firstNumber(c.left)
	if fault != nil {
		c.fault = fault
		return 0
	}
	c.left = c.left[size:]
	return x
}

// firstNumber answers the number at the front of b and how many bytes it takes.
func firstNumber(b []byte) (uint64, int, error) {
	var x uint64
	for i, group := range b {
		needless := i > 0 && group == 0
		tooGreat := i == mostGroups-1 && group > lastGroup
		if needless || tooGreat {
			return 0, 0, api.ErrForm
		}
		x |= uint64(group&127) << (7 * i)
		if group < 128 {
			return x, i + 1, nil
		}
	}
	return 0, 0, api.ErrShort
}
