package float_test

import (
	"math"
	"math/big"
	"testing"

	"precentor/float"
)

const (
	oneNaN  = 0x7ff8000000000000
	signBit = 1 << 63
	least   = math.MinInt64
	most    = math.MaxInt64
)

var (
	inf      = math.Inf(1)
	negative = math.Copysign(0, -1)
)

// rising are numbers, each above the one ahead of it, edges among them.
var rising = []float64{
	-inf, -math.MaxFloat64, -1 << 63, -1 << 53, -2, -1.5, -1, -0.5,
	-0x1p-1022, -math.SmallestNonzeroFloat64, 0, math.SmallestNonzeroFloat64,
	0x1p-1022, 0.5, 1, math.Nextafter(1, 2), 1.5, 2, 1<<53 - 1, 1 << 53,
	1<<53 + 2, 1 << 63, math.MaxFloat64, inf,
}

// nanBits are those of NaNs: quiet and signalling ones, of either sign.
var nanBits = []uint64{
	oneNaN, oneNaN + 1, 0x7ff0000000000001, 0x7ff7ffffffffffff, 0x7fffffffffffffff,
	0xfff8000000000000, 0xfff8000000000001, 0xfff0000000000001, 0xffffffffffffffff,
}

// nans are the NaNs with the bits nanBits.
func nans() []float64 {
	var xs []float64
	for _, b := range nanBits {
		xs = append(xs, math.Float64frombits(b))
	}
	return xs
}

// plainZero tells whether x is +0.
func plainZero(x float64) bool {
	return math.Float64bits(x) == 0
}

func sign(n int) int {
	switch {
	case n < 0:
		return -1
	case n > 0:
		return 1
	}
	return 0
}

func wantCmp(t *testing.T, a, b float64, want int) {
	t.Helper()
	if c, ok := float.Cmp(a, b); c != want || !ok {
		t.Errorf("Cmp(%v, %v): %d, %t; want %d, true", a, b, c, ok, want)
	}
}

func wantCmpInt(t *testing.T, n int64, x float64, want int) {
	t.Helper()
	if c, ok := float.CmpInt(n, x); c != want || !ok {
		t.Errorf("CmpInt(%d, %v): %d, %t; want %d, true", n, x, c, ok, want)
	}
}

// 2.1

func TestCmpOfNumbersAndInfinities(t *testing.T) {
	for i, a := range rising {
		for k, b := range rising {
			wantCmp(t, a, b, sign(i-k))
		}
	}
}

func TestCmpOfTheNoughts(t *testing.T) {
	wantCmp(t, 0, negative, 0)
	wantCmp(t, negative, 0, 0)
	wantCmp(t, negative, negative, 0)
	wantCmp(t, negative, math.SmallestNonzeroFloat64, -1)
	wantCmp(t, negative, -math.SmallestNonzeroFloat64, 1)
}

func TestCmpOfNaN(t *testing.T) {
	others := append(nans(), rising...)
	others = append(others, negative)
	for _, nan := range nans() {
		for _, x := range others {
			if c, ok := float.Cmp(nan, x); c != 0 || ok {
				t.Errorf("Cmp(NaN, %v): %d, %t", x, c, ok)
			}
			if c, ok := float.Cmp(x, nan); c != 0 || ok {
				t.Errorf("Cmp(%v, NaN): %d, %t", x, c, ok)
			}
		}
	}
}

func TestCmpIntByHand(t *testing.T) {
	const far = 1 << 53
	for _, row := range []struct {
		n    int64
		x    float64
		want int
	}{
		{3, 3, 0}, {2, 3, -1}, {4, 3, 1}, {-3, -3, 0}, {-4, -3, -1}, {-2, -3, 1},
		{2, 2.5, -1}, {3, 2.5, 1}, {-2, -2.5, 1}, {-3, -2.5, -1},
		{0, 0.5, -1}, {1, 0.5, 1}, {0, -0.5, 1}, {-1, -0.5, -1},
		{0, 0, 0}, {0, negative, 0}, {1, negative, 1}, {-1, negative, -1},
		{0, math.SmallestNonzeroFloat64, -1}, {0, -math.SmallestNonzeroFloat64, 1},
		{1, math.Nextafter(1, 2), -1}, {1, math.Nextafter(1, 0), 1},
		{far - 1, far, -1}, {far, far, 0}, {far + 1, far, 1}, {far + 1, far + 2, -1},
		{-far + 1, -far, 1}, {-far, -far, 0}, {-far - 1, -far, -1}, {-far - 1, -far - 2, 1},
		{most, 1 << 63, -1}, {most, math.Nextafter(1<<63, 0), 1},
		{most - 1023, math.Nextafter(1<<63, 0), 0}, {most, math.Nextafter(1<<63, inf), -1},
		{least, -1 << 63, 0}, {least + 1, -1 << 63, 1},
		{least, math.Nextafter(-1<<63, 0), -1}, {least, math.Nextafter(-1<<63, -inf), 1},
		{most, -1 << 63, 1}, {least, 1 << 63, -1},
		{most, 1 << 64, -1}, {least, -1 << 64, 1}, {0, 1 << 64, -1}, {0, -1 << 64, 1},
		{most, math.MaxFloat64, -1}, {least, -math.MaxFloat64, 1},
		{most, inf, -1}, {least, inf, -1}, {0, inf, -1},
		{most, -inf, 1}, {least, -inf, 1}, {0, -inf, 1},
	} {
		wantCmpInt(t, row.n, row.x, row.want)
	}
}

// Exact numbers of any length are the measure here.
func TestCmpIntRoundsNothing(t *testing.T) {
	for k := range 64 {
		p := int64(1) << k
		for d := int64(-3); d <= 3; d++ {
			for _, n := range []int64{p + d, -p + d} {
				for _, x := range near(float64(p)) {
					exact := new(big.Float).SetInt64(n).Cmp(big.NewFloat(x))
					wantCmpInt(t, n, x, exact)
				}
			}
		}
	}
}

// near are x, -x, and floats close to them.
func near(x float64) []float64 {
	below, above := math.Nextafter(x, -inf), math.Nextafter(x, inf)
	var xs []float64
	for _, y := range []float64{x, below, above, math.Nextafter(below, -inf), math.Nextafter(above, inf), x - 1, x + 1, x - 0.5, x + 0.5} {
		xs = append(xs, y, -y)
	}
	return xs
}

func TestCmpIntOfNaN(t *testing.T) {
	for _, nan := range nans() {
		for _, n := range []int64{least, -1, 0, 1, 1 << 53, most} {
			if c, ok := float.CmpInt(n, nan); c != 0 || ok {
				t.Errorf("CmpInt(%d, NaN): %d, %t", n, c, ok)
			}
		}
	}
}

// 2.2

func TestBitsByHand(t *testing.T) {
	for _, row := range []struct {
		x    float64
		want uint64
	}{
		{0, 0}, {negative, 0},
		{1, 0x3ff0000000000000}, {-1, 0xbff0000000000000},
		{2, 0x4000000000000000}, {-2, 0xc000000000000000},
		{0.1, 0x3fb999999999999a}, {1.5, 0x3ff8000000000000},
		{math.SmallestNonzeroFloat64, 1}, {-math.SmallestNonzeroFloat64, signBit | 1},
		{0x1p-1022, 0x0010000000000000},
		{math.MaxFloat64, 0x7fefffffffffffff}, {-math.MaxFloat64, 0xffefffffffffffff},
		{inf, 0x7ff0000000000000}, {-inf, 0xfff0000000000000},
	} {
		if got := float.Bits(row.x); got != row.want {
			t.Errorf("Bits(%v): %x; want %x", row.x, got, row.want)
		}
	}
}

func TestBitsOfEachNaN(t *testing.T) {
	for i, nan := range nans() {
		if got := float.Bits(nan); got != oneNaN {
			t.Errorf("Bits(the NaN of %x): %x", nanBits[i], got)
		}
	}
}

func TestOfWhatBitsTells(t *testing.T) {
	for _, x := range append(rising, negative) {
		back, ok := float.Of(float.Bits(x))
		if !ok || back != x || back == 0 && !plainZero(back) {
			t.Errorf("Of(Bits(%v)): %v, %t", x, back, ok)
		}
	}
	x, ok := float.Of(oneNaN)
	if !ok || !math.IsNaN(x) || math.Float64bits(x) != oneNaN {
		t.Errorf("Of(%x): %v, %t", uint64(oneNaN), x, ok)
	}
}

func TestOfWhatNoBitsTells(t *testing.T) {
	for _, b := range append([]uint64{signBit}, nanBits[1:]...) {
		if x, ok := float.Of(b); ok || !plainZero(x) {
			t.Errorf("Of(%x): %v, %t", b, x, ok)
		}
	}
}

// About each power of two of bits, Of knows just those that Bits tells.
func TestOfAndBitsAreInverse(t *testing.T) {
	for k := range 64 {
		for d := range uint64(5) {
			b := uint64(1)<<k + d - 2
			for _, c := range []uint64{b, b | signBit, ^b} {
				x, ok := float.Of(c)
				told := c == oneNaN || c != signBit && c&^signBit <= 0x7ff0000000000000
				if ok != told || ok && float.Bits(x) != c || !ok && !plainZero(x) {
					t.Errorf("Of(%x): %v, %t", c, x, ok)
				}
			}
		}
	}
}

func TestSameOfNumbers(t *testing.T) {
	for i, a := range rising {
		for k, b := range rising {
			if float.Same(a, b) != (i == k) {
				t.Errorf("Same(%v, %v): %t", a, b, i != k)
			}
		}
	}
}

func TestSameOfTheNoughts(t *testing.T) {
	for _, a := range []float64{0, negative} {
		for _, b := range []float64{0, negative} {
			if !float.Same(a, b) {
				t.Errorf("Same(%v, %v): false", a, b)
			}
		}
	}
	if float.Same(negative, -math.SmallestNonzeroFloat64) {
		t.Error("Same(-0, the nearest number below it): true")
	}
}

func TestSameOfNaN(t *testing.T) {
	for i, a := range nans() {
		for k, b := range nans() {
			if !float.Same(a, b) {
				t.Errorf("Same(the NaNs of %x and %x): false", nanBits[i], nanBits[k])
			}
		}
		for _, x := range append(rising, negative) {
			if float.Same(a, x) || float.Same(x, a) {
				t.Errorf("Same(NaN, %v): true", x)
			}
		}
	}
}
