package sat_test

import (
	"math/big"
	"math/rand"
	"testing"

	"turnstile/sat"
)

func TestWideExamples(t *testing.T) {
	rows := []struct {
		promise, name string
		have, want    sat.Wide
	}{
		{"P3.2", "Product(M, M)", sat.Product(m, m), sat.Wide{High: m - 1, Low: 1}},
		{"P3.2", "Of(7)", sat.Of(7), sat.Wide{Low: 7}},
		{"P3.3", "{0, M}.Plus({0, 1})", sat.Wide{Low: m}.Plus(sat.Wide{Low: 1}), sat.Wide{High: 1}},
		{"P3.3", "{M, M}.Plus({0, 1})", sat.Wide{High: m, Low: m}.Plus(sat.Wide{Low: 1}), sat.Wide{High: m, Low: m}},
		{"P3.3", "{1, 0}.Minus({0, 1})", sat.Wide{High: 1}.Minus(sat.Wide{Low: 1}), sat.Wide{Low: m}},
		{"P3.3", "{0, 1}.Minus({1, 0})", sat.Wide{Low: 1}.Minus(sat.Wide{High: 1}), sat.Wide{}},
	}
	for _, row := range rows {
		if row.have != row.want {
			t.Errorf("%s: %s is %v, want %v", row.promise, row.name, row.have, row.want)
		}
	}
	if c := (sat.Wide{High: 1}).Cmp(sat.Wide{Low: m}); c != 1 {
		t.Errorf("P3.3: {1, 0}.Cmp({0, M}) is %d, want 1", c)
	}
	if x, ok := (sat.Wide{Low: m}).Narrow(); x != m || !ok {
		t.Errorf("P3.4: {0, M}.Narrow() is %d, %t", x, ok)
	}
	if x, ok := (sat.Wide{High: 1}).Narrow(); x != 0 || ok {
		t.Errorf("P3.4: {1, 0}.Narrow() is %d, %t", x, ok)
	}
}

// expectWhole asks for the Wides of a, of b and of their product.
func expectWhole(t *testing.T, a, b uint64) {
	t.Helper()
	if have := sat.Of(a); have != (sat.Wide{High: 0, Low: a}) {
		t.Fatalf("P3.2: Of(%d) is %v", a, have)
	}
	if have, want := sat.Product(a, b), wideOf(product(whole(a), whole(b))); have != want {
		t.Fatalf("P3.2: Product(%d, %d) is %v, want %v", a, b, have, want)
	}
}

func TestProducts(t *testing.T) {
	for _, a := range edges() {
		for _, b := range edges() {
			expectWhole(t, a, b)
		}
	}
	random := rand.New(rand.NewSource(3))
	for range 100000 {
		expectWhole(t, anyNumber(random), anyNumber(random))
	}
}

// expectPair asks for w plus v, w minus v, and how w and v compare.
func expectPair(t *testing.T, w, v sat.Wide) {
	t.Helper()
	x, y, most := wholeWide(w), wholeWide(v), greatestWide()
	if have, want := w.Plus(v), wideOf(stopped(sum(x, y), most)); have != want {
		t.Fatalf("P3.3: %v.Plus(%v) is %v, want %v", w, v, have, want)
	}
	if have, want := w.Minus(v), wideOf(stopped(difference(x, y), most)); have != want {
		t.Fatalf("P3.3: %v.Minus(%v) is %v, want %v", w, v, have, want)
	}
	if have, want := w.Cmp(v), x.Cmp(y); have != want {
		t.Fatalf("P3.3: %v.Cmp(%v) is %d, want %d", w, v, have, want)
	}
	if same := w.Cmp(v) == 0; same != (w == v) {
		t.Fatalf("P3.3: %v.Cmp(%v) is %d, but that they are the same struct is %t", w, v, w.Cmp(v), w == v)
	}
}

func TestPairsAtTheEdges(t *testing.T) {
	for _, w := range wideEdges() {
		for _, v := range wideEdges() {
			expectPair(t, w, v)
		}
	}
}

// TestPairsAroundTheEnds takes for each Wide the partners with which the sum is just below, at and just above the greatest Wide,
// and the difference just below, at and just above 0.
func TestPairsAroundTheEnds(t *testing.T) {
	random := rand.New(rand.NewSource(4))
	wides := wideEdges()
	for range 3000 {
		wides = append(wides, anyWide(random))
	}
	for _, w := range wides {
		same := wholeWide(w)
		for _, middle := range []*big.Int{same, difference(greatestWide(), same)} {
			for _, v := range around(middle) {
				expectPair(t, w, v)
				expectPair(t, v, w)
			}
		}
	}
}

// around: x and its neighbours, those of them that are Wides.
func around(x *big.Int) []sat.Wide {
	var list []sat.Wide
	for _, far := range []int64{-1, 0, 1} {
		y := sum(x, big.NewInt(far))
		if y.Cmp(stopped(y, greatestWide())) == 0 {
			list = append(list, wideOf(y))
		}
	}
	return list
}

func TestCarryAndBorrow(t *testing.T) {
	rows := []struct{ w, v, plus, minus sat.Wide }{
		{sat.Wide{High: 3, Low: m}, sat.Wide{High: 2, Low: 1}, sat.Wide{High: 6}, sat.Wide{High: 1, Low: m - 1}},
		{sat.Wide{High: 3, Low: m - 1}, sat.Wide{High: 2, Low: 1}, sat.Wide{High: 5, Low: m}, sat.Wide{High: 1, Low: m - 2}},
		{sat.Wide{High: 3, Low: 0}, sat.Wide{High: 2, Low: 1}, sat.Wide{High: 5, Low: 1}, sat.Wide{High: 0, Low: m}},
		{sat.Wide{High: 3, Low: 1}, sat.Wide{High: 3, Low: 2}, sat.Wide{High: 6, Low: 3}, sat.Wide{}},
		{sat.Wide{High: 3, Low: 2}, sat.Wide{High: 3, Low: 1}, sat.Wide{High: 6, Low: 3}, sat.Wide{Low: 1}},
		{sat.Wide{High: 2, Low: m}, sat.Wide{High: 3}, sat.Wide{High: 5, Low: m}, sat.Wide{}},
		{sat.Wide{High: m - 1, Low: m}, sat.Wide{Low: 1}, sat.Wide{High: m}, sat.Wide{High: m - 1, Low: m - 1}},
		{sat.Wide{High: m, Low: m - 1}, sat.Wide{Low: 1}, sat.Wide{High: m, Low: m}, sat.Wide{High: m, Low: m - 2}},
		{sat.Wide{High: m, Low: m - 1}, sat.Wide{Low: 2}, sat.Wide{High: m, Low: m}, sat.Wide{High: m, Low: m - 3}},
		{sat.Wide{High: m, Low: 5}, sat.Wide{High: 1}, sat.Wide{High: m, Low: m}, sat.Wide{High: m - 1, Low: 5}},
		{sat.Wide{High: 1 << 63}, sat.Wide{High: 1 << 63}, sat.Wide{High: m, Low: m}, sat.Wide{}},
		{sat.Wide{High: 1 << 63, Low: 7}, sat.Wide{High: 1<<63 - 1, Low: m - 7}, sat.Wide{High: m, Low: m}, sat.Wide{Low: 15}},
		{sat.Wide{High: 1 << 63, Low: 7}, sat.Wide{High: 1<<63 - 1, Low: m - 6}, sat.Wide{High: m, Low: m}, sat.Wide{Low: 14}},
		{sat.Wide{High: 1 << 63, Low: 7}, sat.Wide{High: 1<<63 - 1, Low: m - 8}, sat.Wide{High: m, Low: m - 1}, sat.Wide{Low: 16}},
		{sat.Wide{}, sat.Wide{}, sat.Wide{}, sat.Wide{}},
		{sat.Wide{}, sat.Wide{Low: 1}, sat.Wide{Low: 1}, sat.Wide{}},
		{sat.Wide{High: m, Low: m}, sat.Wide{High: m, Low: m}, sat.Wide{High: m, Low: m}, sat.Wide{}},
	}
	for _, row := range rows {
		if have := row.w.Plus(row.v); have != row.plus {
			t.Errorf("P3.3: %v.Plus(%v) is %v, want %v", row.w, row.v, have, row.plus)
		}
		if have := row.w.Minus(row.v); have != row.minus {
			t.Errorf("P3.3: %v.Minus(%v) is %v, want %v", row.w, row.v, have, row.minus)
		}
	}
}

func TestAnyPairs(t *testing.T) {
	random := rand.New(rand.NewSource(5))
	for range 50000 {
		w, v := anyWide(random), anyWide(random)
		expectPair(t, w, v)
		expectPair(t, w, sat.Wide{High: w.High, Low: v.Low})
		expectPair(t, w, sat.Wide{High: v.High, Low: w.Low})
	}
}

// TestCmpOfOneHalf: numbers that differ in one half alone, whatever the other half is; and a high half weighs more than any low one.
func TestCmpOfOneHalf(t *testing.T) {
	for _, other := range fewEdges() {
		for _, x := range fewEdges() {
			if x == m {
				continue
			}
			expectOrder(t, sat.Wide{High: other, Low: x}, sat.Wide{High: other, Low: x + 1})
			expectOrder(t, sat.Wide{High: x, Low: other}, sat.Wide{High: x + 1, Low: other})
			expectOrder(t, sat.Wide{High: x, Low: m}, sat.Wide{High: x + 1, Low: other})
			expectOrder(t, sat.Wide{High: x, Low: other}, sat.Wide{High: x + 1, Low: 0})
		}
	}
}

func expectOrder(t *testing.T, less, more sat.Wide) {
	t.Helper()
	if less.Cmp(more) != -1 || more.Cmp(less) != 1 || less.Cmp(less) != 0 || more.Cmp(more) != 0 {
		t.Errorf("P3.3: %v and %v compare as %d, %d, and with themselves as %d, %d", less, more, less.Cmp(more), more.Cmp(less), less.Cmp(less), more.Cmp(more))
	}
}

func TestNarrow(t *testing.T) {
	for _, low := range edges() {
		if x, ok := sat.Of(low).Narrow(); x != low || !ok {
			t.Errorf("P3.4: {0, %d}.Narrow() is %d, %t", low, x, ok)
		}
		for _, high := range edges() {
			if high == 0 {
				continue
			}
			if x, ok := (sat.Wide{High: high, Low: low}).Narrow(); x != 0 || ok {
				t.Errorf("P3.4: {%d, %d}.Narrow() is %d, %t, want 0, false", high, low, x, ok)
			}
		}
	}
}
