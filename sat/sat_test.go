package sat_test

import (
	"math/rand"
	"testing"

	"turnstile/sat"
)

// expectNumbers asks for the sum, the difference and the product of a and b, as they stop at the ends.
func expectNumbers(t *testing.T, a, b uint64) {
	t.Helper()
	x, y, most := whole(a), whole(b), whole(m)
	rows := []struct {
		name       string
		have, want uint64
	}{
		{"Add", sat.Add(a, b), stopped(sum(x, y), most).Uint64()},
		{"Sub", sat.Sub(a, b), stopped(difference(x, y), most).Uint64()},
		{"Mul", sat.Mul(a, b), stopped(product(x, y), most).Uint64()},
	}
	for _, row := range rows {
		if row.have != row.want {
			t.Fatalf("P3.1: %s(%d, %d) is %d, want %d", row.name, a, b, row.have, row.want)
		}
	}
}

func TestNumberExamples(t *testing.T) {
	rows := []struct {
		name       string
		have, want uint64
	}{
		{"Add(M, 0)", sat.Add(m, 0), m},
		{"Add(M, 1)", sat.Add(m, 1), m},
		{"Add(2, 3)", sat.Add(2, 3), 5},
		{"Sub(3, 5)", sat.Sub(3, 5), 0},
		{"Sub(5, 3)", sat.Sub(5, 3), 2},
		{"Mul(2^32, 2^32)", sat.Mul(1<<32, 1<<32), m},
		{"Mul(2^32, 2^31)", sat.Mul(1<<32, 1<<31), 1 << 63},
		{"Mul(M, 0)", sat.Mul(m, 0), 0},
		{"Mul(M, 1)", sat.Mul(m, 1), m},
	}
	for _, row := range rows {
		if row.have != row.want {
			t.Errorf("P3.1: %s is %d, want %d", row.name, row.have, row.want)
		}
	}
}

func TestNumbersAtTheEdges(t *testing.T) {
	for _, a := range edges() {
		for _, b := range edges() {
			expectNumbers(t, a, b)
		}
	}
}

// TestNumbersAroundTheEnds takes for each number the partners with which the result is just below, at and just above an end.
func TestNumbersAroundTheEnds(t *testing.T) {
	random := rand.New(rand.NewSource(1))
	numbers := edges()
	for range 3000 {
		numbers = append(numbers, anyNumber(random))
	}
	for _, a := range numbers {
		partners := []uint64{m - a - 1, m - a, m - a + 1, a - 1, a, a + 1}
		if a > 0 {
			partners = append(partners, m/a-1, m/a, m/a+1)
		}
		for _, b := range partners {
			expectNumbers(t, a, b)
			expectNumbers(t, b, a)
		}
	}
}

// TestWhereNumbersStop says the ends without any reckoning in numbers without bound.
func TestWhereNumbersStop(t *testing.T) {
	for _, a := range edges() {
		if sat.Add(a, m-a) != m || sat.Add(a, m) != m || sat.Add(m, a) != m {
			t.Errorf("P3.1: a sum with %d isn't 2^64 - 1", a)
		}
		if a > 0 && (sat.Add(a, m-a+1) != m || sat.Add(a-1, m-a) != m-1) {
			t.Errorf("P3.1: with %d: the sum beyond the end is %d, the one below it %d", a, sat.Add(a, m-a+1), sat.Add(a-1, m-a))
		}
		if sat.Sub(a, a) != 0 || sat.Sub(a, m) != 0 || sat.Sub(0, a) != 0 || sat.Sub(a, 0) != a {
			t.Errorf("P3.1: a difference with %d is another one", a)
		}
		if a > 0 && (sat.Sub(a-1, a) != 0 || sat.Sub(a, a-1) != 1) {
			t.Errorf("P3.1: %d and the number below it: %d, %d, want 0, 1", a, sat.Sub(a-1, a), sat.Sub(a, a-1))
		}
		if sat.Mul(a, 0) != 0 || sat.Mul(0, a) != 0 || sat.Mul(a, 1) != a || sat.Mul(1, a) != a {
			t.Errorf("P3.1: a product of %d with 0 or 1 is another one", a)
		}
		if a > 1 && (sat.Mul(a, m) != m || sat.Mul(m, a) != m || sat.Mul(a, m/a+1) != m) {
			t.Errorf("P3.1: a product with %d isn't 2^64 - 1", a)
		}
	}
}

func TestAnyNumbers(t *testing.T) {
	random := rand.New(rand.NewSource(2))
	for range 100000 {
		expectNumbers(t, anyNumber(random), anyNumber(random))
	}
}
