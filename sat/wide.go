package sat

import "math/bits"

// Wide is a number of 128 bits.
type Wide struct {
	High uint64
	Low  uint64
}

// Of: x as a Wide.
func Of(x uint64) Wide { return Wide{Low: x} }

// Product: a * b, whole.
func Product(a uint64, b uint64) Wide {
	high, low := bits.Mul64(a, b)
	return Wide{High: high, Low: low}
}

// Plus: w + v, or the greatest Wide.
func (w Wide) Plus(v Wide) Wide {
	low, carry := bits.Add64(w.Low, v.Low, 0)
	high, over := bits.Add64(w.High, v.High, carry)
	if over == 1 {
		return Wide{High: greatest, Low: greatest}
	}
	return Wide{High: high, Low: low}
}

// Minus: w - v, or 0.
func (w Wide) Minus(v Wide) Wide {
	low, borrow := bits.Sub64(w.Low, v.Low, 0)
	high, under := bits.Sub64(w.High, v.High, borrow)
	if under == 1 {
		return Wide{}
	}
	return Wide{High: high, Low: low}
}

// Cmp: -1, 0 or 1.
func (w Wide) Cmp(v Wide) int {
	if w == v { // each number is one pair
		return 0
	}
	if w.High < v.High || w.High == v.High && w.Low < v.Low {
		return -1
	}
	return 1
}

// Narrow: w as a 64-bit number; false if it doesn't fit.
func (w Wide) Narrow() (uint64, bool) {
	if w.High > 0 {
		return 0, false
	}
	return w.Low, true
}

// DivMod: quotient and remainder by d; zeros if d is 0.
func (w Wide) DivMod(d uint64) (Wide, uint64) {
	if d == 0 {
		return Wide{}, 0
	}
	// The upper half's remainder is below d, so that the second quotient fits into 64 bits and Div64 doesn't panic.
	high, rest := w.High/d, w.High%d
	low, rest := bits.Div64(rest, w.Low, d)
	return Wide{High: high, Low: low}, rest
}
