package sat_test

import (
	"math/big"
	"math/rand"

	"turnstile/sat"
)

const m = 1<<64 - 1

// whole is x as a number without bound.
func whole(x uint64) *big.Int { return new(big.Int).SetUint64(x) }

// wholeWide is w as the chapter says it: High * 2^64 + Low.
func wholeWide(w sat.Wide) *big.Int {
	x := new(big.Int).Mul(whole(w.High), new(big.Int).Lsh(whole(1), 64))
	return x.Add(x, whole(w.Low))
}

// wideOf is the pair of halves that stands for x, which is from 0 to the greatest Wide.
func wideOf(x *big.Int) sat.Wide {
	low := new(big.Int).And(x, whole(m))
	return sat.Wide{High: new(big.Int).Rsh(x, 64).Uint64(), Low: low.Uint64()}
}

func sum(a, b *big.Int) *big.Int        { return new(big.Int).Add(a, b) }
func difference(a, b *big.Int) *big.Int { return new(big.Int).Sub(a, b) }
func product(a, b *big.Int) *big.Int    { return new(big.Int).Mul(a, b) }

// stopped is x, or the end that it lies beyond: 0 or most.
func stopped(x, most *big.Int) *big.Int {
	if x.Sign() < 0 {
		return new(big.Int)
	}
	if x.Cmp(most) > 0 {
		return most
	}
	return x
}

// greatestWide is 2^128 - 1.
func greatestWide() *big.Int { return difference(new(big.Int).Lsh(whole(1), 128), whole(1)) }

// edges: the ends, all powers of two with their neighbours, bits that alternate, and the factors of 2^64 - 1.
func edges() []uint64 {
	list := []uint64{0, 10, 100, m - 2, m - 1, m, 0x5555555555555555, 0xaaaaaaaaaaaaaaaa, 641, 6700417, 6148914691236517205, 1844674407370955161}
	for bit := range 64 {
		list = append(list, 1<<bit-1, 1<<bit, 1<<bit+1)
	}
	return list
}

// fewEdges are those of which every four can be gone through.
func fewEdges() []uint64 { return []uint64{0, 1, 2, 10, 1 << 32, 1<<63 - 1, 1 << 63, m - 1, m} }

// wideEdges: all pairs of the few edges.
func wideEdges() []sat.Wide {
	var list []sat.Wide
	for _, high := range fewEdges() {
		for _, low := range fewEdges() {
			list = append(list, sat.Wide{High: high, Low: low})
		}
	}
	return list
}

// anyNumber is of any length in bits, since nearly all numbers that are drawn evenly have some 64.
func anyNumber(r *rand.Rand) uint64 { return r.Uint64() >> r.Intn(65) }

func anyWide(r *rand.Rand) sat.Wide {
	return sat.Wide{High: anyNumber(r), Low: anyNumber(r)}
}
