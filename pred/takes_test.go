package pred_test

import (
	"math"
	"strings"
	"testing"

	"precentor/api"
	"precentor/pred"
)

func wantTakes(t *testing.T, p api.Pred, v api.Value, want bool) {
	t.Helper()
	if took := pred.Takes(p, v); took != want {
		t.Errorf("Takes(%+v, %+v): %t; want %t", p, v, took, want)
	}
}

func wantVoid(t *testing.T, p api.Pred, want bool) {
	t.Helper()
	if void := pred.Void(p); void != want {
		t.Errorf("Void(%+v): %t; want %t", p, void, want)
	}
}

// place is a value v with one below it and one above, and others at it.
type place struct {
	v, below, above api.Value
	at              []api.Value
}

// places are some of each kind: numbers of one kind beside those of the other,
// the noughts, the infinities, what a rounding would lose.
func places() []place {
	tiny := math.SmallestNonzeroFloat64
	return []place{
		{num(3), num(2), num(4), []api.Value{fl(3)}},
		{num(3), fl(math.Nextafter(3, 2)), fl(math.Nextafter(3, 4)), nil},
		{fl(3), num(2), num(4), []api.Value{num(3)}},
		{fl(2.5), num(2), num(3), nil},
		{fl(-2.5), num(-3), num(-2), nil},
		{num(0), fl(-tiny), fl(tiny), []api.Value{fl(0), fl(negative)}},
		{fl(0), num(-1), num(1), []api.Value{num(0), fl(negative)}},
		{fl(negative), fl(-tiny), fl(tiny), []api.Value{num(0), fl(0)}},
		{fl(1 << 53), num(1<<53 - 1), num(1<<53 + 1), []api.Value{num(1 << 53)}},
		{num(1<<53 + 1), fl(1 << 53), fl(1<<53 + 2), nil},
		{num(math.MaxInt64), num(math.MaxInt64 - 1), fl(1 << 63), nil},
		{num(math.MinInt64), fl(-inf), num(math.MinInt64 + 1), []api.Value{fl(-1 << 63)}},
		{fl(math.MaxFloat64), num(math.MaxInt64), fl(inf), nil},
		{txt("ab"), txt("aaz"), txt("ab\x00"), nil},
		{txt("b"), txt("ab"), txt("\xff"), nil},
		{txt("a"), txt(""), txt("aa"), nil},
		{txt("z"), txt("Z"), txt("\u00e9"), nil},
	}
}

// 6.2

func TestTakesOfHas(t *testing.T) {
	for _, v := range append(rightValues(), wrongValues()...) {
		wantTakes(t, has(), v, true)
	}
}

func TestTakesBelowAtAndAbove(t *testing.T) {
	for _, x := range places() {
		for _, c := range []struct {
			p                api.Pred
			below, at, above bool
		}{
			{is(x.v), false, true, false},
			{not(x.v), true, false, true},
			{less(x.v), true, false, false},
			{most(x.v), true, true, false},
			{more(x.v), false, false, true},
			{least(x.v), false, true, true},
			{between(x.v, x.v), false, true, false},
			{between(x.below, x.v), true, true, false},
			{between(x.v, x.above), false, true, true},
			{between(x.below, x.above), true, true, true},
			{in(x.v), false, true, false},
		} {
			wantTakes(t, c.p, x.below, c.below)
			wantTakes(t, c.p, x.above, c.above)
			for _, v := range append(x.at, x.v) {
				wantTakes(t, c.p, v, c.at)
			}
		}
	}
}

func TestTakesOfBools(t *testing.T) {
	for _, c := range []struct {
		p         api.Pred
		no, doing bool
	}{
		{is(truth(true)), false, true}, {is(truth(false)), true, false},
		{not(truth(true)), true, false}, {not(truth(false)), false, true},
		{less(truth(true)), true, false}, {less(truth(false)), false, false},
		{most(truth(true)), true, true}, {most(truth(false)), true, false},
		{more(truth(true)), false, false}, {more(truth(false)), false, true},
		{least(truth(true)), false, true}, {least(truth(false)), true, true},
		{between(truth(false), truth(true)), true, true},
		{between(truth(true), truth(false)), false, false},
		{in(truth(true), num(0)), false, true},
	} {
		wantTakes(t, c.p, truth(false), c.no)
		wantTakes(t, c.p, truth(true), c.doing)
	}
}

// strangers of v can't be compared with it: they are of another kind, or of none.
func strangers(v api.Value) []api.Value {
	all := []api.Value{{}, {Kind: 5, N: v.N, X: v.X, S: v.S, B: v.B}, {N: v.N, X: v.X, S: v.S, B: v.B}}
	if v.Kind == api.KInt || v.Kind == api.KFloat {
		return append(all, txt(""), txt("3"), truth(false), truth(true))
	}
	all = append(all, num(0), num(1), fl(0), fl(1), fl(-inf), fl(inf))
	if v.Kind == api.KText {
		return append(all, truth(false), truth(true))
	}
	return append(all, txt(""), txt("true"))
}

func TestTakesOfWhatCannotBeCompared(t *testing.T) {
	for _, v := range []api.Value{num(3), num(0), fl(3), fl(0), fl(inf), txt("3"), txt(""), truth(true), truth(false)} {
		for _, x := range strangers(v) {
			for _, p := range []api.Pred{is(v), less(v), most(v), more(v), least(v), between(v, v), in(v)} {
				wantTakes(t, p, x, false)
			}
			wantTakes(t, not(v), x, true)
		}
	}
}

func TestTakesOfNaNOnEitherSide(t *testing.T) {
	values := append(rightValues(), api.Value{}, tooLong)
	for _, x := range nans() {
		odd := fl(x)
		for _, v := range values {
			for _, p := range []api.Pred{is(odd), less(odd), most(odd), more(odd), least(odd), between(odd, odd), between(odd, v), between(v, odd), in(odd)} {
				wantTakes(t, p, v, false)
			}
			wantTakes(t, not(odd), v, true)
		}
		for _, v := range rightValues() {
			for _, p := range []api.Pred{is(v), less(v), most(v), more(v), least(v), between(v, v), between(fl(-inf), fl(inf)), in(v)} {
				wantTakes(t, p, odd, false)
			}
			wantTakes(t, not(v), odd, true)
		}
		wantTakes(t, prefix(""), odd, false)
	}
}

func TestTakesOfTheInfinities(t *testing.T) {
	for _, v := range []api.Value{num(math.MaxInt64), num(math.MinInt64), fl(math.MaxFloat64), fl(-math.MaxFloat64), num(0)} {
		wantTakes(t, less(fl(inf)), v, true)
		wantTakes(t, more(fl(-inf)), v, true)
		wantTakes(t, between(fl(-inf), fl(inf)), v, true)
		wantTakes(t, most(fl(-inf)), v, false)
		wantTakes(t, least(fl(inf)), v, false)
	}
	for _, x := range []float64{inf, -inf} {
		wantTakes(t, is(fl(x)), fl(x), true)
		wantTakes(t, is(fl(x)), fl(-x), false)
		wantTakes(t, not(fl(x)), fl(x), false)
		wantTakes(t, most(fl(x)), fl(x), true)
		wantTakes(t, less(fl(x)), fl(x), false)
		wantTakes(t, between(fl(x), fl(x)), fl(x), true)
		wantTakes(t, in(num(1), fl(x)), fl(x), true)
	}
}

func TestTakesOfARange(t *testing.T) {
	p := between(num(3), fl(5.5))
	for _, c := range []struct {
		v    api.Value
		want bool
	}{
		{num(2), false}, {fl(2.5), false}, {fl(math.Nextafter(3, 2)), false}, {num(3), true}, {fl(3), true},
		{fl(4.5), true}, {num(5), true}, {fl(5.5), true}, {fl(math.Nextafter(5.5, 6)), false}, {num(6), false},
		{fl(inf), false}, {fl(-inf), false}, {txt("4"), false}, {truth(true), false},
	} {
		wantTakes(t, p, c.v, c.want)
	}
	// One whose ends are turned round, or can't be compared, takes nothing.
	for _, p := range []api.Pred{between(num(4), num(3)), between(num(1), txt("z")), between(txt("a"), num(9)), between(truth(false), num(9)), between(txt("b"), txt("a"))} {
		for _, v := range append(rightValues(), num(3), num(4), txt("a"), txt("b"), fl(3.5)) {
			wantTakes(t, p, v, false)
		}
	}
}

func TestTakesOfAPrefix(t *testing.T) {
	for _, c := range []struct {
		s, v string
		want bool
	}{
		{"ab", "ab", true}, {"ab", "abc", true}, {"ab", "ab\x00", true}, {"ab", "a", false},
		{"ab", "", false}, {"ab", "aab", false}, {"ab", "ac", false}, {"ab", "Ab", false}, {"ab", "b", false},
		{"", "", true}, {"", "a", true}, {"", strings.Repeat("x", api.MaxText), true},
		{"\xc3", "\u00e9", true}, {"\x00", "\x00a", true}, {"\x00", "", false}, {"\xff", "\xfe", false},
		{strings.Repeat("x", api.MaxText), strings.Repeat("x", api.MaxText), true},
		{strings.Repeat("x", api.MaxText), strings.Repeat("x", api.MaxText-1), false},
		// A value need not be right.
		{"x", tooLong.S, true},
	} {
		wantTakes(t, prefix(c.s), txt(c.v), c.want)
	}
	for _, v := range []api.Value{num(0), fl(0), nan, truth(true), {}, {S: "ab"}, {Kind: api.KInt, S: "ab"}, {Kind: api.KBool, S: "ab"}, {Kind: 5, S: "ab"}} {
		wantTakes(t, prefix(""), v, false)
		wantTakes(t, prefix("a"), v, false)
	}
}

func TestTakesOfASet(t *testing.T) {
	p := in(nan, num(3), txt("b"), truth(true))
	for _, c := range []struct {
		v    api.Value
		want bool
	}{
		{num(3), true}, {fl(3), true}, {txt("b"), true}, {truth(true), true},
		{nan, false}, {num(2), false}, {num(4), false}, {fl(3.5), false}, {txt("ba"), false},
		{txt(""), false}, {truth(false), false}, {api.Value{}, false}, {num(0), false}, {fl(0), false},
	} {
		wantTakes(t, p, c.v, c.want)
	}
	full := in(num(1), num(2), num(3), num(4))
	for n := range int64(6) {
		wantTakes(t, full, num(n), n >= 1 && n <= 4)
	}
	wantTakes(t, in(fl(negative)), num(0), true)
	wantTakes(t, in(num(0)), fl(negative), true)
	// What stands in the room behind is not there.
	wantTakes(t, in([]api.Value{num(1), num(2)}[:1]...), num(2), false)
}

// Only what the Kinds name is looked at.
func TestTakesOfValuesThatAreNotRight(t *testing.T) {
	odd := api.Value{Kind: api.KInt, N: 3, X: math.NaN(), S: "x", B: true}
	wantTakes(t, is(num(3)), odd, true)
	wantTakes(t, not(num(3)), odd, false)
	wantTakes(t, between(num(3), num(3)), odd, true)
	wantTakes(t, in(num(3)), odd, true)
	wantTakes(t, prefix("x"), odd, false)
	wantTakes(t, prefix("x"), api.Value{Kind: api.KText, S: "xy", N: 1}, true)
	wantTakes(t, more(txt("x")), tooLong, true)
}

func TestTakesOfTestsThatAreNotRight(t *testing.T) {
	values := append(rightValues(), num(3), txt("ab"), api.Value{}, tooLong)
	for _, p := range wrongPreds() {
		for _, v := range values {
			wantTakes(t, p, v, false)
		}
	}
	wantTakes(t, in(num(1), num(2), num(3), num(4), num(5)), num(1), false)
	wantTakes(t, in(num(3), api.Value{}), num(3), false)
	wantTakes(t, is(tooLong), tooLong, false)
	wantTakes(t, not(tooLong), num(1), false)
}

// 6.3

func TestVoidOfNaNAsV(t *testing.T) {
	for _, x := range nans() {
		for _, p := range []api.Pred{is(fl(x)), less(fl(x)), most(fl(x)), more(fl(x)), least(fl(x))} {
			wantVoid(t, p, true)
		}
		wantVoid(t, not(fl(x)), false)
	}
	for _, v := range rightValues() {
		for _, p := range []api.Pred{is(v), less(v), most(v), more(v), least(v)} {
			wantVoid(t, p, v.X != v.X)
		}
		wantVoid(t, not(v), false)
	}
}

func TestVoidOfARange(t *testing.T) {
	for _, x := range places() {
		wantVoid(t, between(x.v, x.below), true)
		wantVoid(t, between(x.above, x.v), true)
		wantVoid(t, between(x.below, x.v), false)
		wantVoid(t, between(x.v, x.above), false)
		for _, v := range append(x.at, x.v) {
			wantVoid(t, between(x.v, v), false)
			wantVoid(t, between(v, x.v), false)
		}
	}
	for _, v := range rightValues() {
		wantVoid(t, between(v, nan), true)
		wantVoid(t, between(nan, v), true)
	}
	for _, c := range [][2]api.Value{
		{num(1), txt("a")}, {txt("a"), num(1)}, {num(0), truth(true)}, {truth(false), fl(1)},
		{txt(""), truth(true)}, {truth(true), txt("true")}, {truth(true), truth(false)}, {fl(inf), fl(-inf)},
	} {
		wantVoid(t, between(c[0], c[1]), true)
	}
	for _, c := range [][2]api.Value{
		{truth(false), truth(true)}, {truth(true), truth(true)}, {fl(-inf), fl(inf)}, {fl(inf), fl(inf)}, {txt(""), txt("")},
	} {
		wantVoid(t, between(c[0], c[1]), false)
	}
}

func TestVoidOfASet(t *testing.T) {
	for n := 1; n <= api.MaxSet; n++ {
		set := make([]api.Value, n)
		for i := range set {
			set[i] = fl(nans()[i])
		}
		wantVoid(t, in(set...), true)
		for place := range n {
			for _, v := range []api.Value{num(0), fl(0), fl(inf), txt(""), truth(false)} {
				mixed := append([]api.Value{}, set...)
				mixed[place] = v
				wantVoid(t, in(mixed...), false)
			}
		}
	}
	wantVoid(t, in([]api.Value{nan, num(1)}[:1]...), true)
}

// Such take nothing, or nothing that is there, and are yet not Void.
func TestVoidOfOnesThatOnlyTakeNothing(t *testing.T) {
	for _, p := range []api.Pred{less(truth(false)), more(truth(true)), less(txt("")), less(fl(-inf)), more(fl(inf))} {
		for _, v := range rightValues() {
			wantTakes(t, p, v, false)
		}
		wantVoid(t, p, false)
	}
}

func TestVoidOfTheOthers(t *testing.T) {
	for _, p := range eachTest() {
		wantVoid(t, p, false)
	}
	wantVoid(t, prefix(""), false)
	wantVoid(t, prefix("NaN"), false)
}

func TestVoidOfTestsThatAreNotRight(t *testing.T) {
	for _, p := range wrongPreds() {
		wantVoid(t, p, false)
	}
	void := []api.Pred{is(nan), less(nan), most(nan), more(nan), least(nan), between(num(2), num(1)), between(num(1), nan), in(nan)}
	for _, p := range void {
		wantVoid(t, p, true)
		nameless, crowded := p, p
		nameless.Name = ""
		crowded.Set = append([]api.Value{{}}, p.Set...)
		wantVoid(t, nameless, false)
		wantVoid(t, crowded, false)
	}
	wantVoid(t, in(), false)
	wantVoid(t, in(nan, nan, nan, nan, nan), false)
	wantVoid(t, between(nan, api.Value{}), false)
	wantVoid(t, between(num(2), api.Value{}), false)
	wantVoid(t, is(api.Value{Kind: api.KFloat, X: math.NaN(), N: 1}), false)
	// A NaN that its Kind doesn't name is none, and not right.
	wantVoid(t, is(api.Value{Kind: api.KInt, X: math.NaN()}), false)
}

// What is Void takes nothing.
func TestVoidTakesNothing(t *testing.T) {
	for _, p := range manyTests() {
		if !pred.Void(p) {
			continue
		}
		for _, v := range manyValues() {
			wantTakes(t, p, v, false)
		}
	}
}
