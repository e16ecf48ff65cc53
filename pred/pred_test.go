package pred_test

import (
	"math"
	"slices"
	"strings"
	"testing"

	"precentor/api"
	"precentor/pred"
	"precentor/value"
)

var (
	inf      = math.Inf(1)
	negative = math.Copysign(0, -1)
	nan      = value.Float(math.NaN())
	tooLong  = value.Text(strings.Repeat("x", api.MaxText+1))
)

func num(n int64) api.Value   { return value.Int(n) }
func fl(x float64) api.Value  { return value.Float(x) }
func txt(s string) api.Value  { return value.Text(s) }
func truth(b bool) api.Value  { return value.Bool(b) }
func has() api.Pred           { return api.Pred{Name: "a", Test: api.THas} }
func is(v api.Value) api.Pred { return api.Pred{Name: "a", Test: api.TIs, V: v} }

func not(v api.Value) api.Pred   { return api.Pred{Name: "a", Test: api.TNot, V: v} }
func less(v api.Value) api.Pred  { return api.Pred{Name: "a", Test: api.TLess, V: v} }
func most(v api.Value) api.Pred  { return api.Pred{Name: "a", Test: api.TMost, V: v} }
func more(v api.Value) api.Pred  { return api.Pred{Name: "a", Test: api.TMore, V: v} }
func least(v api.Value) api.Pred { return api.Pred{Name: "a", Test: api.TLeast, V: v} }
func prefix(s string) api.Pred   { return api.Pred{Name: "a", Test: api.TPrefix, V: txt(s)} }
func in(set ...api.Value) api.Pred {
	return api.Pred{Name: "a", Test: api.TIn, Set: set}
}
func between(v, w api.Value) api.Pred {
	return api.Pred{Name: "a", Test: api.TRange, V: v, W: w}
}

// ofOneValue are the Tests that need a V of any Kind, and nothing else.
var ofOneValue = []int{api.TIs, api.TNot, api.TLess, api.TMost, api.TMore, api.TLeast}

// noTests are numbers that are none of the ten, some of them one of the ten in
// their lowest bits.
var noTests = []int{0, -1, 11, 12, 1 << 8, 1<<8 + api.TIs, 1<<16 + api.TIn, 1<<32 + api.THas, -api.TIs, math.MinInt, math.MaxInt}

// nans are NaNs of other bits and signs.
func nans() []float64 {
	var xs []float64
	for _, b := range []uint64{0x7ff8000000000000, 0x7ff0000000000001, 0x7fffffffffffffff, 0xfff8000000000000, 0xffffffffffffffff} {
		xs = append(xs, math.Float64frombits(b))
	}
	return xs
}

// rightValues are some of each kind, with their edges.
func rightValues() []api.Value {
	return []api.Value{
		num(0), num(1), num(math.MinInt64), num(math.MaxInt64),
		fl(0), fl(negative), nan, fl(inf), fl(-inf), fl(2.5),
		txt(""), txt("ab"), txt(strings.Repeat("\xff", api.MaxText)),
		truth(false), truth(true),
		{Kind: api.KInt, N: 1, X: negative},
	}
}

// wrongValues are some that are not right, each for a reason of its own.
func wrongValues() []api.Value {
	return []api.Value{
		{}, {Kind: 5}, {Kind: -1}, tooLong, {N: 1}, {X: 1}, {S: "a"}, {B: true},
		{Kind: api.KInt, X: 1}, {Kind: api.KInt, X: math.NaN()}, {Kind: api.KInt, S: "a"},
		{Kind: api.KFloat, N: 1}, {Kind: api.KText, B: true}, {Kind: api.KBool, S: "a"},
	}
}

// notZero are values that are no zero rest, each for a reason of its own.
func notZero() []api.Value {
	return []api.Value{
		{Kind: api.KInt}, {Kind: api.KFloat}, {Kind: api.KText}, {Kind: api.KBool},
		{Kind: -1}, {Kind: 5}, {N: 1}, {N: math.MinInt64}, {X: 1}, {X: math.NaN()},
		{X: inf}, {X: math.SmallestNonzeroFloat64}, {S: "a"}, {S: "\x00"}, {B: true},
		num(1), nan, txt("a"), truth(true), tooLong,
	}
}

// eachTest has one of each of the ten, right.
func eachTest() []api.Pred {
	return []api.Pred{
		has(), is(num(3)), not(num(3)), less(num(3)), most(num(3)), more(num(3)),
		least(num(3)), between(num(3), num(5)), prefix("ab"), in(num(3), txt("ab")),
	}
}

// wrongPreds are some that are not right, each for a reason of its own.
func wrongPreds() []api.Pred {
	all := []api.Pred{
		{}, {Name: "a"}, {Test: api.THas}, {Name: "A", Test: api.THas}, {Name: "abcdefg", Test: api.THas},
		in(), in(num(1), num(2), num(3), num(4), num(5)), in(num(1), tooLong),
		{Name: "a", Test: api.TPrefix, V: num(1)}, prefix(tooLong.S), between(num(1), api.Value{}),
		between(api.Value{}, num(1)), between(num(1), tooLong), between(tooLong, num(1)),
	}
	for _, test := range noTests {
		all = append(all, api.Pred{Name: "a", Test: test}, api.Pred{Name: "a", Test: test, V: num(3)})
	}
	for _, test := range ofOneValue {
		all = append(all, api.Pred{Name: "a", Test: test}, api.Pred{Name: "a", Test: test, V: tooLong})
	}
	for _, p := range eachTest() {
		nameless, crowded := p, p
		nameless.Name = ""
		crowded.W.S = "x"
		if p.Test == api.TRange {
			crowded.Set = []api.Value{num(1)}
		}
		all = append(all, nameless, crowded)
	}
	return all
}

func wantRight(t *testing.T, p api.Pred, want bool) {
	t.Helper()
	if right := pred.Right(p); right != want {
		t.Errorf("Right(%+v): %t; want %t", p, right, want)
	}
}

func wantSame(t *testing.T, a, b api.Pred, want bool) {
	t.Helper()
	if pred.Same(a, b) != want || pred.Same(b, a) != want {
		t.Errorf("Same(%+v, %+v): %t, turned round %t; want %t", a, b, pred.Same(a, b), pred.Same(b, a), want)
	}
}

// 6.1 Right

func TestRightOfEachTestWithWhatItNeeds(t *testing.T) {
	wantRight(t, has(), true)
	for _, v := range rightValues() {
		for _, test := range ofOneValue {
			wantRight(t, api.Pred{Name: "a", Test: test, V: v}, true)
		}
		for _, w := range rightValues() {
			wantRight(t, between(v, w), true)
			wantRight(t, in(v, w), true)
		}
		wantRight(t, in(v), true)
		wantRight(t, api.Pred{Name: "a", Test: api.TPrefix, V: v}, v.Kind == api.KText)
	}
}

func TestRightAsksForRightValues(t *testing.T) {
	for _, v := range wrongValues() {
		for _, test := range append(ofOneValue, api.TPrefix) {
			wantRight(t, api.Pred{Name: "a", Test: test, V: v}, false)
		}
		wantRight(t, between(v, num(1)), false)
		wantRight(t, between(num(1), v), false)
		wantRight(t, between(v, v), false)
		for n := 1; n <= api.MaxSet; n++ {
			for place := range n {
				set := slices.Repeat([]api.Value{num(1)}, n)
				set[place] = v
				wantRight(t, in(set...), false)
			}
		}
	}
}

// A text of another kind of value has what a text has, but is none.
func TestRightOfAPrefixThatIsNoText(t *testing.T) {
	for _, v := range []api.Value{num(0), fl(0), truth(false), nan, {Kind: api.KText, S: "a", N: 1}, {S: "a"}, {Kind: api.KBool, S: "a"}} {
		wantRight(t, api.Pred{Name: "a", Test: api.TPrefix, V: v}, false)
	}
	wantRight(t, prefix(strings.Repeat("x", api.MaxText)), true)
	wantRight(t, prefix(strings.Repeat("x", api.MaxText+1)), false)
}

func TestRightWithOneThingLess(t *testing.T) {
	for _, p := range eachTest() {
		wantRight(t, p, true)
		noV, noW, noSet := p, p, p
		noV.V, noW.W, noSet.Set = api.Value{}, api.Value{}, nil
		wantRight(t, noV, p.Test == api.THas || p.Test == api.TIn)
		wantRight(t, noW, p.Test != api.TRange)
		wantRight(t, noSet, p.Test != api.TIn)
	}
}

func TestRightWithOneThingMore(t *testing.T) {
	for _, p := range eachTest() {
		for _, v := range notZero() {
			if p.Test == api.THas || p.Test == api.TIn {
				full := p
				full.V = v
				wantRight(t, full, false)
			}
			if p.Test != api.TRange {
				full := p
				full.W = v
				wantRight(t, full, false)
			}
		}
		if p.Test == api.TIn {
			continue
		}
		for _, set := range [][]api.Value{{num(1)}, {{}}, {num(1), num(2), num(3), num(4), num(5)}} {
			full := p
			full.Set = set
			wantRight(t, full, false)
		}
	}
}

// A rest is zero by value.Same, which tells the noughts the same, and nil and
// an empty list are the same.
func TestRightOfARestThatIsTheSameAsZero(t *testing.T) {
	nought := api.Value{X: negative}
	for _, p := range eachTest() {
		if p.Test == api.THas || p.Test == api.TIn {
			p.V = nought
			wantRight(t, p, true)
		}
		if p.Test != api.TRange {
			p.W = nought
			wantRight(t, p, true)
		}
		if p.Test != api.TIn {
			p.Set = []api.Value{}
			wantRight(t, p, true)
			p.Set = []api.Value{num(1), num(2)}[:0]
			wantRight(t, p, true)
		}
	}
	// What is needed is no rest: a nought of no Kind is no right value.
	wantRight(t, is(nought), false)
	wantRight(t, between(num(1), nought), false)
	wantRight(t, in(nought), false)
}

func TestRightOfATestThatIsNone(t *testing.T) {
	for _, test := range noTests {
		for _, p := range eachTest() {
			p.Test = test
			wantRight(t, p, false)
		}
	}
}

func TestRightOfOtherTestsWithTheSameParts(t *testing.T) {
	fits := func(p api.Pred, test int) bool {
		switch p.Test {
		case api.THas, api.TRange, api.TIn:
			return test == p.Test
		case api.TPrefix:
			return test == api.TPrefix || slices.Contains(ofOneValue, test)
		}
		return slices.Contains(ofOneValue, test)
	}
	for _, p := range eachTest() {
		for test := api.THas; test <= api.TIn; test++ {
			other := p
			other.Test = test
			wantRight(t, other, fits(p, test))
		}
	}
}

func TestRightAsksForAWord(t *testing.T) {
	for _, p := range eachTest() {
		for _, name := range []string{"a", "z", "abcdef", strings.Repeat("q", api.MaxWord)} {
			p.Name = name
			wantRight(t, p, true)
		}
		for _, name := range []string{"", "A", "a1", "a ", "`", "{", "a\x00", "\xff", "\u00e9", strings.Repeat("q", api.MaxWord+1)} {
			p.Name = name
			wantRight(t, p, false)
		}
	}
}

func TestRightByHowManyAreInTheSet(t *testing.T) {
	for n := range 4 * api.MaxSet {
		wantRight(t, in(slices.Repeat([]api.Value{num(1)}, n)...), n >= 1 && n <= api.MaxSet)
		wantRight(t, in(slices.Repeat([]api.Value{nan}, n)...), n >= 1 && n <= api.MaxSet)
	}
	wantRight(t, in(num(1), txt("b"), fl(negative), truth(false)), true)
	wantRight(t, in([]api.Value{num(1)}[:0]...), false)
	wantRight(t, in([]api.Value{num(1), {}}[:1]...), true)
}

// 6.1 Same

func TestSameOfTestsThatAreAlike(t *testing.T) {
	for _, p := range append(eachTest(), wrongPreds()...) {
		wantSame(t, p, p, true)
		other := p
		other.Name, other.V.S = strings.Clone(p.Name), strings.Clone(p.V.S)
		other.Set = append(make([]api.Value, 0, 9), p.Set...)
		wantSame(t, p, other, true)
	}
}

func TestSameOfEachTestWithEachOther(t *testing.T) {
	for i, a := range eachTest() {
		for k, b := range eachTest() {
			wantSame(t, a, b, i == k)
		}
	}
}

// turned are values that differ from v in one thing each.
func turned(v api.Value) []api.Value {
	all := []api.Value{v, v, v, v, v, v}
	all[0].Kind++
	all[1].N++
	all[2].X = 1.25
	all[3].S += "\x00"
	all[4].B = !v.B
	all[5].X = math.NaN()
	return all
}

func TestSameOfOnesThatDifferInOneThing(t *testing.T) {
	full := api.Pred{Name: "a", Test: api.TIs, V: num(1), W: txt("b"), Set: []api.Value{num(1), txt("b"), truth(true)}}
	for _, p := range append(eachTest(), full, api.Pred{}) {
		for _, name := range []string{p.Name + "b", "b", "A"} {
			other := p
			other.Name = name
			wantSame(t, p, other, false)
		}
		for _, test := range append([]int{p.Test + 1, p.Test - 1}, p.Test+1<<8, p.Test+1<<32) {
			other := p
			other.Test = test
			wantSame(t, p, other, false)
		}
		for _, v := range turned(p.V) {
			other := p
			other.V = v
			wantSame(t, p, other, false)
		}
		for _, w := range turned(p.W) {
			other := p
			other.W = w
			wantSame(t, p, other, false)
		}
		for place := range p.Set {
			for _, v := range turned(p.Set[place]) {
				other := p
				other.Set = slices.Clone(p.Set)
				other.Set[place] = v
				wantSame(t, p, other, false)
			}
		}
	}
}

func TestSameOfSetsOfOtherLengths(t *testing.T) {
	for n := range 2 * api.MaxSet {
		for m := range 2 * api.MaxSet {
			wantSame(t, in(slices.Repeat([]api.Value{num(1)}, n)...), in(slices.Repeat([]api.Value{num(1)}, m)...), n == m)
		}
	}
	wantSame(t, in(), in(api.Value{}), false)
	// nil and an empty list are the same; what stands in the room behind is not there.
	wantSame(t, api.Pred{Test: api.TIn}, api.Pred{Test: api.TIn, Set: []api.Value{}}, true)
	wantSame(t, api.Pred{Test: api.TIn}, api.Pred{Test: api.TIn, Set: []api.Value{num(1)}[:0]}, true)
	wantSame(t, in([]api.Value{num(1), num(2)}[:1]...), in([]api.Value{num(1), num(3)}[:1]...), true)
}

func TestSameOfSetsInAnotherOrder(t *testing.T) {
	wantSame(t, in(num(1), num(2)), in(num(2), num(1)), false)
	wantSame(t, in(num(1), num(1), num(2)), in(num(1), num(2), num(2)), false)
	wantSame(t, in(num(1), num(2), num(3)), in(num(1), num(3), num(2)), false)
	wantSame(t, between(num(1), num(2)), between(num(2), num(1)), false)
}

func TestSameTellsValuesByValueSame(t *testing.T) {
	for _, x := range nans() {
		wantSame(t, is(nan), is(fl(x)), true)
		wantSame(t, between(nan, nan), between(nan, fl(x)), true)
		wantSame(t, in(num(1), nan), in(num(1), fl(x)), true)
		wantSame(t, is(fl(0)), is(fl(x)), false)
	}
	wantSame(t, is(fl(0)), is(fl(negative)), true)
	wantSame(t, between(num(1), fl(0)), between(num(1), fl(negative)), true)
	wantSame(t, in(fl(0)), in(fl(negative)), true)
	wantSame(t, has(), api.Pred{Name: "a", Test: api.THas, V: api.Value{X: negative}, W: api.Value{X: negative}}, true)
	// Those that are at one another, but not the same.
	wantSame(t, is(num(2)), is(fl(2)), false)
	wantSame(t, between(num(1), num(2)), between(num(1), fl(2)), false)
	wantSame(t, in(num(2)), in(fl(2)), false)
}

// R2: nothing of what is handed in is changed, nor of the room behind a Set.
func TestSetsStayAsTheyAre(t *testing.T) {
	make7 := func() []api.Value { return []api.Value{txt("b"), nan, num(3), num(1), num(7), txt("room"), nan} }
	whole, other := make7(), make7()
	p, q := in(whole[:4]...), in(other[1:4]...)
	for _, v := range rightValues() {
		pred.Takes(p, v)
		pred.Takes(q, v)
	}
	for _, r := range eachTest() {
		pred.Implies(p, r)
		pred.Implies(r, p)
		pred.Same(p, r)
	}
	pred.Right(p)
	pred.Void(p)
	pred.Same(p, q)
	pred.Implies(p, q)
	pred.Implies(q, p)
	if !slices.EqualFunc(whole, make7(), value.Same) || !slices.EqualFunc(other, make7(), value.Same) {
		t.Errorf("left %+v and %+v of %+v", whole, other, make7())
	}
}
