package score_test

import (
	"math"
	"math/big"
	"slices"
	"testing"

	"coaming/score"
)

// Numbers that can't be written as literals.
var (
	none  = math.NaN()
	inf   = math.Inf(1)
	minus = math.Copysign(0, -1)
)

// kinds are numbers with their kinds, the edges of each among them; those of one row are told apart by Order.
var kinds = []struct {
	x    float64
	kind uint8
}{
	{none, score.IsNone},
	{-inf, score.IsBelow},
	{-math.MaxFloat64, score.IsLess},
	{-1e16, score.IsLess},
	{-1, score.IsLess},
	{-0.5, score.IsLess},
	{-0x1p-1022, score.IsLess},
	{-math.SmallestNonzeroFloat64, score.IsLess},
	{minus, score.IsMinus},
	{0, score.IsZero},
	{math.SmallestNonzeroFloat64, score.IsMore},
	{0x1p-1022, score.IsMore},
	{0.5, score.IsMore},
	{1, score.IsMore},
	{math.Nextafter(1, 2), score.IsMore},
	{1e16, score.IsMore},
	{math.MaxFloat64, score.IsMore},
	{inf, score.IsAbove},
}

// nones are numbers that are none, with different bits.
var nones = []float64{none, -none, math.Copysign(none, -1), math.Float64frombits(0x7ff0000000000001), math.Float64frombits(0xfff8000000000000), math.Float64frombits(math.MaxUint64)}

// whole are whole numbers, those among them that float64 has to round, down and up.
var whole = []uint64{0, 1, 2, 3, 7, 10, 255, 4096, 1 << 20, math.MaxUint32, 1<<53 - 1, 1 << 53, 1<<53 + 1, 1<<53 + 2, 1<<53 + 3, 1<<54 + 2, 1<<54 + 6, math.MaxInt64 - 1, math.MaxInt64, 1 << 63, 1<<63 + 1, 1<<63 + 1024, 1<<63 + 1025, 1<<63 + 3072, math.MaxUint64 - 1024, math.MaxUint64 - 1, math.MaxUint64}

// same says whether two numbers have the same bits, or are none both.
func same(a, b float64) bool {
	return math.Float64bits(a) == math.Float64bits(b) || math.IsNaN(a) && math.IsNaN(b)
}

func want(t *testing.T, what string, got, want float64) {
	t.Helper()
	if !same(got, want) {
		t.Errorf("%s: %v (%x), not %v (%x)", what, got, math.Float64bits(got), want, math.Float64bits(want))
	}
}

func wantBest(t *testing.T, k int, l ...float64) {
	t.Helper()
	if got := score.Best(l...); got != k {
		t.Errorf("Best%v: %d, not %d", l, got, k)
	}
}

func TestExamples(t *testing.T) {
	want(t, "Worth(0, 4, 10)", score.Worth(0, 4, 10), 10)
	want(t, "Worth(4, 4, 10)", score.Worth(4, 4, 10), 0)
	want(t, "Worth(1, 2, 6)", score.Worth(1, 2, 6), 2)
	want(t, "Worth(0, 0, 1)", score.Worth(0, 0, 1), none)
	wantBest(t, 2, 1, none, 3, 3)
	wantBest(t, -1, none)
	if got := score.Order(minus, 0); got != 0 {
		t.Errorf("Order(-0, 0): %d", got)
	}
	want(t, "Ratio(1, 0)", score.Ratio(1, 0), inf)
}

func TestNamesOfKinds(t *testing.T) {
	names := []uint8{score.IsNone, score.IsBelow, score.IsLess, score.IsMinus, score.IsZero, score.IsMore, score.IsAbove}
	if !slices.Equal(names, []uint8{1, 2, 3, 4, 5, 6, 7}) {
		t.Errorf("%d", names)
	}
}

func TestKind(t *testing.T) {
	for _, row := range kinds {
		if got := score.Kind(row.x); got != row.kind {
			t.Errorf("Kind(%v): %d, not %d", row.x, got, row.kind)
		}
	}
	for _, x := range nones {
		if got := score.Kind(x); got != score.IsNone {
			t.Errorf("Kind of none (%x): %d", math.Float64bits(x), got)
		}
	}
}

// place is where a number stands in the table of kinds; both noughts have one place.
func place(i int) int {
	if kinds[i].kind == score.IsMinus {
		return i + 1
	}
	return i
}

func TestOrder(t *testing.T) {
	for i, a := range kinds {
		for k, b := range kinds {
			by := 0
			if place(i) < place(k) {
				by = -1
			}
			if place(i) > place(k) {
				by = 1
			}
			if got := score.Order(a.x, b.x); got != by {
				t.Errorf("Order(%v, %v): %d, not %d", a.x, b.x, got, by)
			}
		}
	}
}

func TestOrderOfNones(t *testing.T) {
	for _, a := range nones {
		for _, b := range nones {
			if got := score.Order(a, b); got != 0 {
				t.Errorf("Order of none (%x, %x): %d", math.Float64bits(a), math.Float64bits(b), got)
			}
		}
		for _, b := range kinds[1:] {
			if score.Order(a, b.x) != -1 || score.Order(b.x, a) != 1 {
				t.Errorf("Order of none (%x) and %v: %d, %d", math.Float64bits(a), b.x, score.Order(a, b.x), score.Order(b.x, a))
			}
		}
	}
}

func TestRatio(t *testing.T) {
	want(t, "Ratio(0, 0)", score.Ratio(0, 0), none)
	want(t, "Ratio(0, 1)", score.Ratio(0, 1), 0)
	want(t, "Ratio(1, 4)", score.Ratio(1, 4), 0.25)
	want(t, "Ratio(4, 1)", score.Ratio(4, 1), 4)
	want(t, "Ratio(2^64 - 1, 0)", score.Ratio(math.MaxUint64, 0), inf)
	want(t, "Ratio(2^64 - 1, 1)", score.Ratio(math.MaxUint64, 1), 0x1p64)
	want(t, "Ratio(2^64 - 1, 2^64 - 2)", score.Ratio(math.MaxUint64, math.MaxUint64-1), 1)
	want(t, "Ratio(2^53 + 1, 2^53)", score.Ratio(1<<53+1, 1<<53), 1)
	want(t, "Ratio(2^53 + 3, 2^53)", score.Ratio(1<<53+3, 1<<53), 1+0x1p-51)
	want(t, "Ratio(1, 3)", score.Ratio(1, 3), 0x1.5555555555555p-2)
}

// float is a whole number with as many bits as float64 has.
func float(n uint64) *big.Float {
	return new(big.Float).SetPrec(53).SetMode(big.ToNearestEven).SetInt(new(big.Int).SetUint64(n))
}

// step is an empty number that what is worked out next is rounded into.
func step() *big.Float { return new(big.Float).SetPrec(53).SetMode(big.ToNearestEven) }

func value(x *big.Float) float64 {
	v, _ := x.Float64()
	return v
}

// wantedWorth is worked out by the library's great numbers, each step rounded by itself; total is not 0.
func wantedWorth(live, total, age uint64) float64 {
	u := step().Quo(float(live), float(total))
	gain := step().Mul(step().Sub(float(1), u), float(age))
	return value(step().Quo(gain, step().Add(float(1), u)))
}

func TestRatioAgainstGreatNumbers(t *testing.T) {
	for _, a := range whole {
		for _, b := range whole {
			if b != 0 {
				want(t, "Ratio", score.Ratio(a, b), value(step().Quo(float(a), float(b))))
			}
		}
	}
}

func TestWorthAgainstGreatNumbers(t *testing.T) {
	for _, live := range whole {
		for _, total := range whole {
			for _, age := range whole {
				if total != 0 {
					want(t, "Worth", score.Worth(live, total, age), wantedWorth(live, total, age))
				}
			}
		}
	}
}

func TestWorthOfZones(t *testing.T) {
	for live := range uint64(65) {
		for age := range uint64(50) {
			want(t, "Worth", score.Worth(live, 64, age*977), wantedWorth(live, 64, age*977))
			want(t, "Worth", score.Worth(live, 49, age*977), wantedWorth(live, 49, age*977))
		}
	}
}

func TestWorthAtItsEdges(t *testing.T) {
	want(t, "nothing of nothing", score.Worth(0, 0, 0), none)
	want(t, "something of nothing", score.Worth(1, 0, 5), none)
	want(t, "something of nothing, not old", score.Worth(1, 0, 0), none)
	want(t, "not old", score.Worth(1, 2, 0), 0)
	want(t, "more than there is", score.Worth(3, 1, 4), -2)
	want(t, "more than there is, not old", score.Worth(3, 1, 0), minus)
	want(t, "all of it, as old as can be", score.Worth(7, 7, math.MaxUint64), 0)
	want(t, "nothing of it, as old as can be", score.Worth(0, 7, math.MaxUint64), 0x1p64)
}

func TestBest(t *testing.T) {
	wantBest(t, -1)
	wantBest(t, -1, []float64{}...)
	wantBest(t, -1, nones...)
	wantBest(t, 0, 5)
	wantBest(t, 0, -inf)
	wantBest(t, 1, none, -inf)
	wantBest(t, 0, -inf, none)
	wantBest(t, 0, -inf, -inf)
	wantBest(t, 1, -inf, -math.MaxFloat64)
	wantBest(t, 0, inf, inf)
	wantBest(t, 1, math.MaxFloat64, inf, none, inf)
	wantBest(t, 0, minus, 0)
	wantBest(t, 0, 0, minus)
	wantBest(t, 1, none, minus, 0)
	wantBest(t, 3, -3, -2, none, -1, -1, -4)
	wantBest(t, 1, 1, math.Nextafter(1, 2), 1)
	wantBest(t, 2, none, none, 1, none)
}

func TestBestWhereverItStands(t *testing.T) {
	for n := 1; n < 20; n++ {
		for k := range n {
			l := make([]float64, n)
			for i := range l {
				l[i] = float64(-1 - (i*7)%5)
			}
			l[k] = 0
			l[n-1] = 0
			wantBest(t, k, l...)
		}
	}
}

func TestMean(t *testing.T) {
	for _, row := range []struct {
		what string
		mean float64
		l    []float64
	}{
		{"of nothing", none, nil},
		{"of an empty list", none, []float64{}},
		{"of none", none, nones},
		{"of one", 5, []float64{5}},
		{"of one and none", 5, []float64{none, 5, none}},
		{"of some and none", 2, []float64{1, none, 3}},
		{"of whole numbers", 2.5, []float64{1, 2, 3, 4}},
		{"of what is rounded", 1.0 / 3, []float64{1, 0, 0}},
		{"of minus nought", 0, []float64{minus}},
		{"of minus noughts", 0, []float64{minus, minus}},
		{"of a tiny one below nought", minus, []float64{-math.SmallestNonzeroFloat64, 0, 0}},
		{"of an infinity", inf, []float64{1, inf, none}},
		{"of minus infinity", -inf, []float64{-inf, math.MaxFloat64}},
		{"of both infinities", none, []float64{inf, -inf}},
		{"of both infinities and more", none, []float64{1, -inf, inf, 2}},
		{"of great ones", inf, []float64{math.MaxFloat64, math.MaxFloat64, -math.MaxFloat64}},
		{"of great ones, in another order", math.MaxFloat64 / 3, []float64{math.MaxFloat64, -math.MaxFloat64, math.MaxFloat64}},
		{"from the front on", 0x1p53 / 3, []float64{0x1p53, 1, 1}},
		{"from the front on, small ones first", (0x1p53 + 2) / 3, []float64{1, 1, 0x1p53}},
		{"of what goes away", 0, []float64{1, 1e100, -1e100}},
	} {
		want(t, row.what, score.Mean(row.l...), row.mean)
	}
}

func TestArgumentsStay(t *testing.T) {
	backing := make([]float64, 0, 2*len(kinds))
	for _, row := range slices.Backward(kinds) {
		backing = append(backing, row.x)
	}
	backing = append(backing, inf, inf, none, 7)
	l := backing[:len(backing)-4]
	before := slices.Clone(backing)
	if got := score.Best(l[1:]...); got != 0 {
		t.Errorf("Best reads behind the length: %d", got)
	}
	want(t, "Mean", score.Mean(l[1:len(l)-2]...), score.Mean(slices.Clone(l[1:len(l)-2])...))
	want(t, "Mean of no numbers, some behind", score.Mean(backing[:0]...), none)
	if !slices.EqualFunc(backing, before, same) {
		t.Errorf("changed: %v", backing)
	}
}

func FuzzNumbers(f *testing.F) {
	f.Add(1.0, none, 3.0)
	f.Add(minus, 0.0, -inf)
	f.Add(math.MaxFloat64, inf, math.SmallestNonzeroFloat64)
	f.Fuzz(func(t *testing.T, a, b, c float64) {
		holdsOfTwo(t, a, b)
		if score.Order(a, b) <= 0 && score.Order(b, c) <= 0 && score.Order(a, c) > 0 {
			t.Errorf("%v, %v, %v are not in one order", a, b, c)
		}
		if score.Order(a, b) == 0 && score.Order(a, c) != score.Order(b, c) {
			t.Errorf("%v and %v are the same, but not beside %v", a, b, c)
		}
		holdsOfBest(t, a, b, c)
		holdsOfMean(t, a, b, c)
	})
}

func holdsOfTwo(t *testing.T, a, b float64) {
	t.Helper()
	if score.Order(a, a) != 0 || score.Order(a, b) != -score.Order(b, a) {
		t.Errorf("%v, %v: no order", a, b)
	}
	if a != b && score.Kind(a) < score.Kind(b) && score.Order(a, b) != -1 {
		t.Errorf("%v, %v: another order than that of their kinds", a, b)
	}
	if !math.IsNaN(a) && !math.IsNaN(b) && (score.Order(a, b) < 0) != (a < b) {
		t.Errorf("%v, %v: another order than that of the language", a, b)
	}
}

func holdsOfBest(t *testing.T, l ...float64) {
	t.Helper()
	best := score.Best(l...)
	for i, x := range l {
		if math.IsNaN(x) {
			continue
		}
		if best < 0 || math.IsNaN(l[best]) || x > l[best] || x == l[best] && i < best {
			t.Errorf("Best%v: %d", l, best)
		}
	}
	if best >= 0 && math.IsNaN(l[best]) {
		t.Errorf("Best%v: %d, which is no number", l, best)
	}
}

func holdsOfMean(t *testing.T, l ...float64) {
	t.Helper()
	numbers := slices.DeleteFunc(slices.Clone(l), math.IsNaN)
	sum, count := 0.0, 0.0
	for _, x := range numbers {
		sum += x
		count++
	}
	want(t, "Mean", score.Mean(l...), sum/count)
	want(t, "Mean without what is no number", score.Mean(numbers...), sum/count)
}

func FuzzWorth(f *testing.F) {
	f.Add(uint64(1), uint64(2), uint64(6))
	f.Add(uint64(math.MaxUint64), uint64(1<<63+1025), uint64(1<<53+1))
	f.Fuzz(func(t *testing.T, live, total, age uint64) {
		if total == 0 {
			want(t, "Worth of nothing", score.Worth(live, total, age), none)
			return
		}
		want(t, "Ratio", score.Ratio(live, total), value(step().Quo(float(live), float(total))))
		want(t, "Worth", score.Worth(live, total, age), wantedWorth(live, total, age))
	})
}
