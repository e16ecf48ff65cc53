package value_test

import (
	"math"
	"math/big"
	"strings"
	"testing"

	"precentor/api"
	"precentor/value"
)

const (
	least = math.MinInt64
	most  = math.MaxInt64
)

var (
	inf      = math.Inf(1)
	nan      = math.NaN()
	negative = math.Copysign(0, -1)
)

// kinds are the four.
var kinds = []int{api.KInt, api.KFloat, api.KText, api.KBool}

// noKinds are none of the four.
var noKinds = []int{0, 5, -1, -4, 1 << 8, 1<<8 + 1, 1<<32 + 1, math.MinInt, math.MaxInt}

// ints are whole numbers, rising.
var ints = []int64{
	least, least + 1, least + 1024, -1<<53 - 1, -1 << 53, -2, -1, 0, 1, 2, 3,
	1 << 53, 1<<53 + 1, 1<<53 + 2, most - 1024, most - 1, most,
}

// floats are numbers, rising, with one nought.
var floats = []float64{
	-inf, -math.MaxFloat64, math.Nextafter(-1<<63, -inf), -1 << 63,
	math.Nextafter(-1<<63, 0), -1<<53 - 2, -1 << 53, -2.5, -2, -1.5, -1,
	math.Nextafter(-1, 0), -math.SmallestNonzeroFloat64, 0,
	math.SmallestNonzeroFloat64, math.Nextafter(1, 0), 1, math.Nextafter(1, 2),
	2, 2.5, 1 << 53, 1<<53 + 2, math.Nextafter(1<<63, 0), 1 << 63,
	math.Nextafter(1<<63, inf), math.MaxFloat64, inf,
}

// texts are such, rising by their bytes.
var texts = []string{
	"", "\x00", "\x00\x00", "\x01", "A", "Z", "a", "a\x00", "aa", "aaaaaaaaaaaaaaa",
	"ab", "b", "ba", "\x7f", "\x80", "\xc3\xa9", "\xe2\x82\xac", "\xff", "\xff\x00", "\xff\xff",
}

// nanBits are those of NaNs: quiet and signalling ones, of either sign.
var nanBits = []uint64{
	0x7ff8000000000000, 0x7ff8000000000001, 0x7ff0000000000001, 0x7fffffffffffffff,
	0xfff8000000000000, 0xfff8000000000001, 0xfff0000000000001, 0xffffffffffffffff,
}

// nans are the NaNs with the bits nanBits.
func nans() []float64 {
	var xs []float64
	for _, b := range nanBits {
		xs = append(xs, math.Float64frombits(b))
	}
	return xs
}

// alike tells whether a and b have the same parts, X to the bit.
func alike(a, b api.Value) bool {
	return a.Kind == b.Kind && a.N == b.N && a.S == b.S && a.B == b.B &&
		math.Float64bits(a.X) == math.Float64bits(b.X)
}

// stuffed is v with something in each part that its Kind doesn't name: high
// picks between two fillings.
func stuffed(v api.Value, high bool) api.Value {
	full := api.Value{Kind: v.Kind, N: -7, X: nan, S: "a"}
	if high {
		full = api.Value{Kind: v.Kind, N: 7, X: inf, S: "\xff, and longer than any", B: true}
	}
	switch v.Kind {
	case api.KInt:
		full.N = v.N
	case api.KFloat:
		full.X = v.X
	case api.KText:
		full.S = v.S
	case api.KBool:
		full.B = v.B
	}
	return full
}

func sign(n int) int {
	switch {
	case n < 0:
		return -1
	case n > 0:
		return 1
	}
	return 0
}

// wantCmp asks for Cmp of a and b and of b and a, and for Is, whatever stands
// in the parts that their Kinds don't name.
func wantCmp(t *testing.T, a, b api.Value, want int, can bool) {
	t.Helper()
	for _, p := range [][2]api.Value{
		{a, b},
		{stuffed(a, false), b},
		{a, stuffed(b, false)},
		{stuffed(a, false), stuffed(b, true)},
		{stuffed(a, true), stuffed(b, false)},
	} {
		wantCmpOnce(t, p[0], p[1], want, can)
		wantCmpOnce(t, p[1], p[0], -want, can)
	}
}

func wantCmpOnce(t *testing.T, a, b api.Value, want int, can bool) {
	t.Helper()
	if c, ok := value.Cmp(a, b); c != want || ok != can {
		t.Errorf("Cmp(%+v, %+v): %d, %t; want %d, %t", a, b, c, ok, want, can)
	}
	if is := value.Is(a, b); is != (can && want == 0) {
		t.Errorf("Is(%+v, %+v): %t", a, b, is)
	}
}

func wantRight(t *testing.T, v api.Value, want bool) {
	t.Helper()
	if right := value.Right(v); right != want {
		t.Errorf("Right(%+v): %t; want %t", v, right, want)
	}
}

func wantSame(t *testing.T, a, b api.Value, want bool) {
	t.Helper()
	if value.Same(a, b) != want || value.Same(b, a) != want {
		t.Errorf("Same(%+v, %+v): %t, turned round %t; want %t", a, b, value.Same(a, b), value.Same(b, a), want)
	}
}

func wantMade(t *testing.T, call string, got, want api.Value) {
	t.Helper()
	if !alike(got, want) {
		t.Errorf("%s: %+v; want %+v", call, got, want)
	}
}

// 3.1

func TestIntMakesWhateverItIsGiven(t *testing.T) {
	for _, n := range ints {
		wantMade(t, "Int", value.Int(n), api.Value{Kind: api.KInt, N: n})
	}
}

func TestFloatMakesWhateverItIsGiven(t *testing.T) {
	for _, x := range append(append(nans(), negative), floats...) {
		wantMade(t, "Float", value.Float(x), api.Value{Kind: api.KFloat, X: x})
	}
}

func TestTextMakesWhateverItIsGiven(t *testing.T) {
	long := strings.Repeat("x", api.MaxText+1)
	for _, s := range append([]string{long, strings.Repeat(long, 1000)}, texts...) {
		wantMade(t, "Text", value.Text(s), api.Value{Kind: api.KText, S: s})
	}
}

func TestBoolMakesWhateverItIsGiven(t *testing.T) {
	wantMade(t, "Bool", value.Bool(false), api.Value{Kind: api.KBool})
	wantMade(t, "Bool", value.Bool(true), api.Value{Kind: api.KBool, B: true})
}

func TestRightOfEachKind(t *testing.T) {
	for _, n := range ints {
		wantRight(t, value.Int(n), true)
	}
	for _, x := range append(append(nans(), negative), floats...) {
		wantRight(t, value.Float(x), true)
	}
	wantRight(t, value.Bool(false), true)
	wantRight(t, value.Bool(true), true)
	for _, kind := range kinds {
		wantRight(t, api.Value{Kind: kind}, true)
	}
}

func TestRightOfTextsByTheirBytes(t *testing.T) {
	for n := 0; n <= api.MaxText; n++ {
		wantRight(t, value.Text(strings.Repeat("\xff", n)), true)
	}
	wantRight(t, value.Text(strings.Repeat("x", api.MaxText+1)), false)
	wantRight(t, value.Text(strings.Repeat("x", 1<<16)), false)
	// Two bytes each: as many letters as there may be bytes are too many.
	wantRight(t, value.Text(strings.Repeat("\xc3\xa9", api.MaxText/2)), true)
	wantRight(t, value.Text(strings.Repeat("\xc3\xa9", api.MaxText/2)+"x"), false)
}

func TestRightOfAKindThatIsNone(t *testing.T) {
	for _, kind := range noKinds {
		wantRight(t, api.Value{Kind: kind}, false)
		wantRight(t, api.Value{Kind: kind, N: 1}, false)
		wantRight(t, api.Value{Kind: kind, X: 1}, false)
		wantRight(t, api.Value{Kind: kind, S: "a"}, false)
		wantRight(t, api.Value{Kind: kind, B: true}, false)
	}
}

func TestRightAsksForZeroInWhatTheKindDoesNotName(t *testing.T) {
	for _, kind := range kinds {
		for _, n := range []int64{1, -1, least, most} {
			wantRight(t, api.Value{Kind: kind, N: n}, kind == api.KInt)
		}
		for _, x := range append(nans(), 1, -0.5, inf, -inf, math.SmallestNonzeroFloat64) {
			wantRight(t, api.Value{Kind: kind, X: x}, kind == api.KFloat)
		}
		for _, s := range []string{"a", "\x00"} {
			wantRight(t, api.Value{Kind: kind, S: s}, kind == api.KText)
		}
		wantRight(t, api.Value{Kind: kind, B: true}, kind == api.KBool)
		wantRight(t, api.Value{Kind: kind, N: 1, X: 1, S: "a", B: true}, false)
	}
}

func TestRightTakesEitherNought(t *testing.T) {
	for _, v := range []api.Value{value.Int(3), value.Float(0), value.Text("a"), value.Bool(true)} {
		v.X = negative
		wantRight(t, v, true)
		v.X = 0
		wantRight(t, v, true)
	}
	wantRight(t, api.Value{X: negative}, false)
}

// bases are values to turn one part of, right or not.
func bases() []api.Value {
	var all []api.Value
	for _, kind := range append(append([]int{}, kinds...), noKinds...) {
		all = append(all,
			api.Value{Kind: kind},
			api.Value{Kind: kind, N: 3, X: 1.5, S: "ab", B: true},
			api.Value{Kind: kind, X: nan, S: strings.Repeat("x", api.MaxText+1)})
	}
	return all
}

func TestSameOfValuesThatAreAlike(t *testing.T) {
	for _, v := range bases() {
		wantSame(t, v, v, true)
		copied := v
		copied.S = strings.Clone(v.S)
		wantSame(t, v, copied, true)
	}
}

func TestSameOfValuesThatDifferInOnePart(t *testing.T) {
	for _, v := range bases() {
		for _, kind := range append(append([]int{}, kinds...), noKinds...) {
			other := v
			other.Kind = kind
			wantSame(t, v, other, kind == v.Kind)
		}
		for _, turn := range []func(*api.Value){
			func(o *api.Value) { o.N++ },
			func(o *api.Value) { o.N += 1 << 32 },
			func(o *api.Value) { o.N = -o.N - 1 },
			func(o *api.Value) { o.X = 2.5 },
			func(o *api.Value) { o.X = math.Nextafter(1.5, 2) },
			func(o *api.Value) { o.X = inf },
			func(o *api.Value) { o.S += "\x00" },
			func(o *api.Value) { o.S = "x" + o.S },
			func(o *api.Value) { o.S = "aB" },
			func(o *api.Value) { o.B = !o.B },
		} {
			other := v
			turn(&other)
			wantSame(t, v, other, false)
		}
	}
}

func TestSameOfBothNoughtsAndOfNaN(t *testing.T) {
	for _, kind := range append(append([]int{}, kinds...), noKinds...) {
		zero := api.Value{Kind: kind, N: 1, S: "s"}
		minus := zero
		minus.X = negative
		wantSame(t, zero, minus, true)
		wantSame(t, minus, minus, true)
		for _, x := range nans() {
			for _, y := range nans() {
				a, b := zero, zero
				a.X, b.X = x, y
				wantSame(t, a, b, true)
				wantSame(t, a, zero, false)
				wantSame(t, a, minus, false)
			}
		}
	}
	plus := value.Float(inf)
	wantSame(t, plus, plus, true)
	wantSame(t, plus, value.Float(-inf), false)
	wantSame(t, plus, value.Float(nan), false)
}

func TestSameIsNotIs(t *testing.T) {
	wantSame(t, value.Int(1), value.Float(1), false)
	wantSame(t, value.Int(0), value.Float(0), false)
	wantSame(t, value.Int(0), value.Bool(false), false)
	wantSame(t, value.Text(""), value.Int(0), false)
	wantSame(t, stuffed(value.Int(1), false), stuffed(value.Int(1), true), false)
}

// 3.2

func TestCmpOfWholeNumbers(t *testing.T) {
	for i, a := range ints {
		for k, b := range ints {
			wantCmp(t, value.Int(a), value.Int(b), sign(i-k), true)
		}
	}
}

func TestCmpOfFloats(t *testing.T) {
	for i, a := range floats {
		for k, b := range floats {
			wantCmp(t, value.Float(a), value.Float(b), sign(i-k), true)
		}
	}
	wantCmp(t, value.Float(0), value.Float(negative), 0, true)
	wantCmp(t, value.Float(negative), value.Float(negative), 0, true)
	wantCmp(t, value.Float(negative), value.Float(math.SmallestNonzeroFloat64), -1, true)
}

// exact is how n and x, no NaN, lie to one another, without rounding.
func exact(n int64, x float64) int {
	if math.IsInf(x, 0) {
		return -sign(int(math.Copysign(1, x)))
	}
	return new(big.Rat).SetInt64(n).Cmp(new(big.Rat).SetFloat64(x))
}

func TestCmpOfAWholeNumberAndAFloat(t *testing.T) {
	for _, n := range ints {
		near := float64(n)
		xs := []float64{
			near, math.Nextafter(near, inf), math.Nextafter(near, -inf),
			near + 0.5, near - 0.5, negative,
		}
		for _, x := range append(xs, floats...) {
			wantCmp(t, value.Int(n), value.Float(x), exact(n, x), true)
		}
	}
	wantCmp(t, value.Int(1<<53+1), value.Float(1<<53), 1, true)
	wantCmp(t, value.Int(most), value.Float(1<<63), -1, true)
	wantCmp(t, value.Int(least), value.Float(-1<<63), 0, true)
	wantCmp(t, value.Int(0), value.Float(negative), 0, true)
	wantCmp(t, value.Int(0), value.Float(0), 0, true)
	wantCmp(t, value.Int(2), value.Float(2.5), -1, true)
	wantCmp(t, value.Int(most), value.Float(inf), -1, true)
	wantCmp(t, value.Int(least), value.Float(-inf), 1, true)
}

func TestCmpOfNaN(t *testing.T) {
	for _, x := range nans() {
		for _, n := range ints {
			wantCmp(t, value.Float(x), value.Int(n), 0, false)
		}
		for _, y := range append(append(nans(), negative), floats...) {
			wantCmp(t, value.Float(x), value.Float(y), 0, false)
		}
		wantCmp(t, value.Float(x), value.Text(""), 0, false)
		wantCmp(t, value.Float(x), value.Bool(false), 0, false)
	}
}

func TestCmpOfTextsByTheirBytes(t *testing.T) {
	for i, a := range texts {
		for k, b := range texts {
			wantCmp(t, value.Text(a), value.Text(b), sign(i-k), true)
		}
	}
	long := strings.Repeat("x", 1000)
	wantCmp(t, value.Text(long), value.Text(strings.Clone(long)), 0, true)
	wantCmp(t, value.Text(long), value.Text(long+"\x00"), -1, true)
}

func TestCmpOfBools(t *testing.T) {
	wantCmp(t, value.Bool(false), value.Bool(true), -1, true)
	wantCmp(t, value.Bool(false), value.Bool(false), 0, true)
	wantCmp(t, value.Bool(true), value.Bool(true), 0, true)
}

// compared tells whether values of these Kinds are.
func compared(a, b int) bool {
	number := func(kind int) bool { return kind == api.KInt || kind == api.KFloat }
	return number(a) && number(b) || a == b && (a == api.KText || a == api.KBool)
}

func TestCmpOfKindsThatAreNotCompared(t *testing.T) {
	every := append(append([]int{}, kinds...), noKinds...)
	for _, a := range every {
		for _, b := range every {
			wantCmp(t, api.Value{Kind: a}, api.Value{Kind: b}, 0, compared(a, b))
			if !compared(a, b) {
				full := api.Value{N: 1, X: 1, S: "a", B: true}
				low, high := full, full
				low.Kind, high.Kind, high.N, high.X, high.S = a, b, 2, 2, "b"
				wantCmp(t, low, high, 0, false)
			}
		}
	}
	wantCmp(t, value.Int(1), value.Bool(true), 0, false)
	wantCmp(t, value.Int(1), value.Text("1"), 0, false)
	wantCmp(t, value.Text("true"), value.Bool(true), 0, false)
}

func TestIsOfTheExamples(t *testing.T) {
	for _, c := range []struct {
		a, b api.Value
		want bool
	}{
		{value.Float(nan), value.Float(nan), false},
		{value.Int(2), value.Float(2), true},
		{value.Float(2), value.Int(2), true},
		{value.Int(1<<53 + 1), value.Float(1 << 53), false},
		{value.Float(negative), value.Float(0), true},
		{value.Float(negative), value.Int(0), true},
		{value.Text("a"), value.Text("a"), true},
		{value.Text("a"), value.Text("ab"), false},
		{value.Bool(true), value.Bool(true), true},
		{value.Bool(true), value.Int(1), false},
		{api.Value{}, api.Value{}, false},
	} {
		if is := value.Is(c.a, c.b); is != c.want {
			t.Errorf("Is(%+v, %+v): %t; want %t", c.a, c.b, is, c.want)
		}
	}
}
