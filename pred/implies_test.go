package pred_test

import (
	"math"
	"strings"
	"testing"

	"precentor/api"
	"precentor/pred"
)

func wantImplies(t *testing.T, q, p api.Pred, want bool) {
	t.Helper()
	// Names are not looked at.
	for _, name := range []string{"a", "b", "abcdef"} {
		p.Name = name
		if implies := pred.Implies(q, p); implies != want {
			t.Errorf("Implies(%+v, %+v): %t; want %t", q, p, implies, want)
		}
	}
}

// manyValues are of each kind and of none, at, about and far from what stands
// in manyTests.
func manyValues() []api.Value {
	all := []api.Value{
		nan, fl(math.Float64frombits(0xfff0000000000001)), fl(inf), fl(-inf), fl(negative), fl(math.SmallestNonzeroFloat64),
		num(math.MaxInt64), num(math.MinInt64), fl(1 << 63), fl(1 << 53), num(1 << 53), num(1<<53 + 1),
		txt(""), txt("\x00"), txt("a"), txt("a\x00"), txt("ab"), txt("aba"), txt("abc"), txt("abd"), txt("ac"),
		txt("b"), txt("ba"), txt("c"), txt("\xff"), tooLong, truth(false), truth(true),
		{}, {Kind: 5, N: 1, S: "ab"}, {Kind: api.KInt, N: 2, X: math.NaN(), S: "ab"}, {Kind: api.KText, S: "abc", N: 1},
	}
	for n := int64(-1); n <= 5; n++ {
		all = append(all, num(n), fl(float64(n)), fl(float64(n)+0.5))
	}
	return all
}

// standing are the values that stand in manyTests.
func standing() []api.Value {
	return []api.Value{
		num(1), num(2), fl(2), fl(2.5), num(3), fl(0), fl(negative), num(0), nan, fl(inf), fl(-inf),
		num(1<<53 + 1), fl(1 << 53), txt(""), txt("a"), txt("ab"), txt("abc"), txt("b"), truth(false), truth(true),
	}
}

// manyTests has each Test with each of standing, or each two of them.
func manyTests() []api.Pred {
	all := []api.Pred{has()}
	for _, v := range standing() {
		all = append(all, is(v), not(v), less(v), most(v), more(v), least(v), in(v))
		if v.Kind == api.KText {
			all = append(all, prefix(v.S))
		}
		for _, w := range standing() {
			all = append(all, between(v, w), in(v, w), in(nan, v, w, num(2)))
		}
	}
	return all
}

// 6.4, of the examples

func TestImpliesOfTheExamples(t *testing.T) {
	wantTakes(t, not(nan), nan, true)
	wantImplies(t, more(num(3)), least(num(3)), true)
	wantImplies(t, least(num(3)), more(num(3)), false)
	wantImplies(t, between(num(5), num(4)), is(num(1)), true)
}

// 6.4, of ones that aren't right

func TestImpliesOfTestsThatAreNotRight(t *testing.T) {
	others := append(eachTest(), is(nan), between(num(5), num(4)), in(nan), not(nan))
	for _, p := range wrongPreds() {
		for _, q := range others {
			if pred.Implies(p, q) || pred.Implies(q, p) || pred.Implies(p, p) {
				t.Errorf("Implies of %+v and %+v: true", p, q)
			}
		}
	}
	for _, p := range wrongPreds() {
		for _, q := range wrongPreds() {
			if pred.Implies(q, p) {
				t.Errorf("Implies(%+v, %+v): true", q, p)
			}
		}
	}
}

// 6.4, the first way

func TestImpliesOfVoid(t *testing.T) {
	for _, q := range manyTests() {
		if !pred.Void(q) {
			continue
		}
		for _, p := range append(eachTest(), is(nan), not(nan), in(nan), less(nan), prefix(""), between(num(5), num(4))) {
			wantImplies(t, q, p, true)
		}
	}
}

func TestImpliesOfHas(t *testing.T) {
	for _, q := range manyTests() {
		wantImplies(t, q, has(), true)
		if q.Test != api.THas {
			wantImplies(t, has(), q, false)
		}
	}
}

// Ones that take nothing and are not Void imply no more than others.
func TestImpliesOfOnesThatOnlyTakeNothing(t *testing.T) {
	wantImplies(t, less(truth(false)), is(num(1)), false)
	wantImplies(t, less(txt("")), least(num(1)), false)
	wantImplies(t, more(fl(inf)), less(num(1)), false)
	wantImplies(t, less(fl(-inf)), most(fl(-inf)), true)
}

// 6.4, the second way

func TestImpliesOfItself(t *testing.T) {
	for _, p := range manyTests() {
		wantImplies(t, p, p, true)
	}
	wantImplies(t, prefix(""), prefix(""), true)
	wantImplies(t, in(num(1), txt("b"), nan), in(num(1), txt("b"), nan), true)
	wantImplies(t, not(fl(0)), not(fl(negative)), true)
	for _, x := range nans() {
		wantImplies(t, not(nan), not(fl(x)), true)
		wantImplies(t, in(fl(x), num(1)), in(nan, num(1)), true)
	}
	other := not(num(1))
	other.W.X, other.Set = negative, []api.Value{}
	wantImplies(t, not(num(1)), other, true)
	wantImplies(t, other, not(num(1)), true)
}

// 6.4, the third way

func TestImpliesOfNot(t *testing.T) {
	for _, c := range []struct {
		q    api.Pred
		v    api.Value
		want bool
	}{
		{less(num(3)), num(3), true}, {less(num(3)), num(4), true}, {less(num(3)), num(2), false},
		{less(num(3)), fl(3), true}, {less(num(3)), fl(2.5), false}, {less(num(3)), txt("a"), true},
		{most(num(3)), num(3), false}, {most(num(3)), fl(3), false}, {most(num(3)), fl(3.5), true},
		{more(num(3)), num(3), true}, {more(num(3)), num(4), false}, {more(num(3)), nan, true},
		{least(num(3)), num(3), false}, {least(num(3)), num(2), true},
		{between(num(2), num(4)), num(1), true}, {between(num(2), num(4)), num(2), false},
		{between(num(2), num(4)), num(4), false}, {between(num(2), num(4)), num(5), true},
		{is(num(2)), num(3), true}, {is(num(2)), num(2), false}, {is(num(2)), fl(2), false}, {is(num(2)), txt("2"), true},
		{is(num(2)), nan, true}, {in(num(1), num(2)), num(2), false}, {in(num(1), num(2)), fl(1), false},
		{in(num(1), num(2)), num(3), true}, {in(num(1), nan), nan, true},
		{prefix("ab"), txt("ab"), false}, {prefix("ab"), txt("abc"), false}, {prefix("ab"), txt("a"), true},
		{prefix("ab"), num(1), true}, {prefix(""), txt(""), false}, {prefix(""), truth(true), true},
		{not(num(1)), fl(1), true}, {not(fl(0)), num(0), true}, {not(num(1)), num(2), false},
		{not(nan), num(1), false}, {not(num(1)), nan, false}, {not(num(1)), txt("1"), false},
		{has(), nan, false}, {has(), num(1), false},
	} {
		wantImplies(t, c.q, not(c.v), c.want)
	}
}

// 6.4, the fourth way

func TestImpliesOfIs(t *testing.T) {
	for _, p := range manyTests() {
		for _, v := range standing() {
			if v.X == v.X && p.Test != api.TNot {
				wantImplies(t, is(v), p, pred.Takes(p, v))
			}
		}
	}
	wantImplies(t, is(num(2)), less(fl(2.5)), true)
	wantImplies(t, is(num(2)), less(num(2)), false)
	wantImplies(t, is(num(2)), is(fl(2)), true)
	wantImplies(t, is(num(1<<53+1)), is(fl(1<<53)), false)
	wantImplies(t, is(fl(negative)), is(num(0)), true)
	wantImplies(t, is(num(2)), in(txt("a"), fl(2)), true)
	wantImplies(t, is(num(2)), in(nan, num(1)), false)
	wantImplies(t, is(txt("abc")), prefix("ab"), true)
	wantImplies(t, is(txt("ab")), prefix("ab"), true)
	wantImplies(t, is(txt("a")), prefix("ab"), false)
	wantImplies(t, is(num(2)), is(nan), false)
	wantImplies(t, is(txt("a")), least(txt("a")), true)
	wantImplies(t, is(txt("a")), more(txt("a")), false)
	wantImplies(t, is(num(2)), between(num(2), num(2)), true)
	wantImplies(t, is(num(2)), between(num(1), txt("z")), false)
}

// 6.4, the fifth way

func TestImpliesOfIn(t *testing.T) {
	wantImplies(t, in(num(1), nan, num(2)), between(num(1), num(2)), true)
	wantImplies(t, in(num(1), nan), is(num(1)), true)
	wantImplies(t, in(nan, num(1)), is(fl(1)), true)
	wantImplies(t, in(num(1), num(2)), is(num(1)), false)
	wantImplies(t, in(num(1), num(2)), is(num(2)), false)
	wantImplies(t, in(num(1), num(3)), most(num(2)), false)
	wantImplies(t, in(num(1), num(2)), most(num(2)), true)
	wantImplies(t, in(num(1), num(2)), less(num(2)), false)
	wantImplies(t, in(num(1), num(2)), in(num(2), num(1)), true)
	wantImplies(t, in(num(1), num(2)), in(num(3), fl(2), fl(1), nan), true)
	wantImplies(t, in(num(1), num(2), num(3)), in(num(1), num(2)), false)
	wantImplies(t, in(num(1), nan), in(num(1)), true)
	wantImplies(t, in(txt("ab"), txt("abc")), prefix("ab"), true)
	wantImplies(t, in(txt("ab"), txt("a")), prefix("ab"), false)
	wantImplies(t, in(txt("ab"), num(1)), prefix("ab"), false)
	wantImplies(t, in(num(1), txt("b")), least(num(1)), false)
	wantImplies(t, in(num(1)), is(nan), false)
	// Each place of a Set counts, and none behind it.
	for place := range api.MaxSet {
		set := []api.Value{num(1), num(1), num(1), num(1)}
		set[place] = num(2)
		wantImplies(t, in(set...), is(num(1)), false)
		set[place] = nan
		wantImplies(t, in(set...), is(num(1)), true)
	}
	wantImplies(t, in([]api.Value{num(1), num(2)}[:1]...), is(num(1)), true)
}

// 6.4, the sixth way

// ended are the tests of v that have ends, but those with two.
func ended(v api.Value) []api.Pred {
	return []api.Pred{less(v), most(v), more(v), least(v)}
}

func TestImpliesOfEndsByHand(t *testing.T) {
	for _, c := range []struct {
		q, p api.Pred
		want bool
	}{
		// Open ends and closed ones at one value.
		{less(num(3)), less(fl(3)), true}, {less(num(3)), most(num(3)), true}, {less(num(3)), most(fl(3)), true},
		{most(num(3)), less(num(3)), false}, {most(num(3)), most(fl(3)), true},
		{more(num(3)), more(fl(3)), true}, {more(num(3)), least(fl(3)), true},
		{least(num(3)), more(fl(3)), false}, {least(num(3)), least(fl(3)), true},
		{between(num(1), num(3)), less(num(3)), false}, {between(num(1), num(3)), most(num(3)), true},
		{between(num(1), num(3)), more(num(1)), false}, {between(num(1), num(3)), least(num(1)), true},
		{more(fl(0)), least(fl(negative)), true}, {least(fl(negative)), more(num(0)), false}, {least(fl(negative)), least(num(0)), true},
		// One within, one without.
		{less(num(2)), less(num(3)), true}, {most(num(2)), less(num(3)), true}, {less(num(4)), less(num(3)), false},
		{less(num(4)), most(num(3)), false}, {more(num(4)), more(num(3)), true}, {least(num(4)), more(num(3)), true},
		{more(num(2)), more(num(3)), false}, {more(num(2)), least(num(3)), false},
		{less(num(1<<53 + 1)), less(fl(1 << 53)), false}, {less(fl(1 << 53)), less(num(1<<53 + 1)), true},
		// One end more or less.
		{less(num(3)), between(num(0), num(3)), false}, {most(num(3)), between(fl(-inf), num(3)), false},
		{more(num(3)), between(num(0), fl(inf)), false}, {between(num(2), num(3)), less(num(4)), true},
		{between(num(2), num(3)), more(num(1)), true}, {between(num(2), num(3)), less(num(2)), false},
		{more(num(1)), less(num(9)), false}, {less(num(1)), more(num(0)), false}, {less(num(3)), least(fl(-inf)), false},
		// Two ends, both within, one of them, none.
		{between(num(2), num(3)), between(fl(1.5), num(3)), true}, {between(num(2), num(3)), between(num(2), fl(3.5)), true},
		{between(num(2), num(3)), between(fl(2), fl(3)), true}, {between(num(1), num(4)), between(num(1), num(3)), false},
		{between(num(0), num(3)), between(num(1), num(3)), false}, {between(num(0), num(4)), between(num(1), num(3)), false},
		{between(num(4), num(5)), between(num(1), num(3)), false}, {between(num(1), num(3)), between(num(4), num(5)), false},
		// Ends that can't be compared.
		{more(num(1)), more(txt("")), false}, {less(num(1)), most(nan), false}, {less(num(1)), less(nan), false},
		{more(num(1)), least(nan), false}, {more(txt("a")), least(truth(false)), false}, {more(num(1)), more(truth(false)), false},
		{between(num(1), num(2)), between(num(0), txt("z")), false}, {between(num(1), num(2)), between(txt(""), num(3)), false},
		{between(num(1), num(2)), between(nan, num(3)), false}, {between(num(1), num(2)), between(num(0), nan), false},
		{between(num(1), num(2)), between(num(3), num(0)), false},
		// Infinities, texts, bools.
		{most(num(3)), less(fl(inf)), true}, {less(fl(inf)), most(fl(inf)), true}, {most(fl(inf)), less(fl(inf)), false},
		{least(num(3)), more(fl(-inf)), true}, {between(fl(-inf), fl(inf)), least(fl(-inf)), true},
		{between(fl(-inf), fl(inf)), more(fl(-inf)), false},
		{more(txt("b")), least(txt("ab")), true}, {more(txt("a")), least(txt("a\x00")), false}, {less(txt("ab")), less(txt("b")), true},
		{most(txt("ab")), less(txt("ab\x00")), true},
		{least(truth(true)), more(truth(false)), true}, {most(truth(false)), less(truth(true)), true}, {least(truth(false)), more(truth(false)), false},
	} {
		wantImplies(t, c.q, c.p, c.want)
	}
}

// Between the ends there is always a number more, so that one test lies within
// another just where no number is taken by the first of them alone.
func TestImpliesOfEndsIsWhatNumbersTell(t *testing.T) {
	var tests []api.Pred
	var ends, numbers []api.Value
	for n := int64(1); n <= 3; n++ {
		ends = append(ends, num(n), fl(float64(n)), fl(float64(n)+0.5))
	}
	for x := 0.25; x < 5; x += 0.25 {
		numbers = append(numbers, fl(x))
	}
	for _, v := range ends {
		tests = append(tests, ended(v)...)
		for _, w := range ends {
			tests = append(tests, between(v, w))
		}
	}
	for _, q := range tests {
		for _, p := range tests {
			wantImplies(t, q, p, takesAll(q, p, numbers))
		}
	}
}

// takesAll tells whether p takes all of values that q takes.
func takesAll(q, p api.Pred, values []api.Value) bool {
	for _, v := range values {
		if pred.Takes(q, v) && !pred.Takes(p, v) {
			return false
		}
	}
	return true
}

// 6.4, the seventh way

func TestImpliesOfPrefixesByHand(t *testing.T) {
	for _, c := range []struct {
		q, p api.Pred
		want bool
	}{
		{prefix("abc"), prefix("ab"), true}, {prefix("ab"), prefix("abc"), false}, {prefix("abc"), prefix(""), true},
		{prefix(""), prefix("a"), false}, {prefix("b"), prefix("a"), false}, {prefix("aab"), prefix("ab"), false},
		{prefix("b"), least(txt("b")), true}, {prefix("b"), least(txt("ab")), true}, {prefix("b"), least(txt("ba")), false},
		{prefix("b"), least(txt("")), true}, {prefix(""), least(txt("")), true}, {prefix(""), more(txt("")), false},
		{prefix("b"), more(txt("b")), false}, {prefix("b"), more(txt("ab")), true}, {prefix("b"), more(txt("")), true},
		{prefix("b"), more(txt("c")), false}, {prefix("b"), least(txt("c")), false},
		{prefix("b"), least(num(1)), false}, {prefix("b"), more(fl(-inf)), false}, {prefix("b"), least(nan), false},
		{prefix("b"), more(truth(false)), false},
		// Others than a prefix lie within none.
		{between(txt("b"), txt("b")), prefix("b"), false}, {least(txt("b")), prefix(""), false}, {more(txt("b")), prefix(""), false},
		{less(txt("b")), prefix(""), false}, {most(txt("")), prefix(""), false}, {not(num(1)), prefix(""), false}, {has(), prefix(""), false},
	} {
		wantImplies(t, c.q, c.p, c.want)
	}
}

func TestImpliesOfPrefixesIsWhatTextsTell(t *testing.T) {
	all := texts(4)
	short := all[:1+2+4+8]
	for _, q := range short {
		for _, p := range short {
			for _, r := range []api.Pred{prefix(p.S), least(p), more(p)} {
				wantImplies(t, prefix(q.S), r, takesAll(prefix(q.S), r, all))
			}
		}
	}
}

// texts are all of at most n letters a and b, the shorter ones first.
func texts(n int) []api.Value {
	row := []string{""}
	all := []api.Value{txt("")}
	for range n {
		var next []string
		for _, s := range row {
			next = append(next, s+"a", s+"b")
		}
		for _, s := range next {
			all = append(all, txt(s))
		}
		row = next
	}
	return all
}

// 6.4, the eighth way

func TestImpliesOfWhatNoneFits(t *testing.T) {
	for _, c := range []struct{ q, p api.Pred }{
		// Such lie within, some of them, but it is not seen.
		{prefix("b"), less(txt("c"))}, {prefix("b"), most(txt("c"))}, {prefix("b"), between(txt("b"), txt("c"))},
		{prefix(strings.Repeat("b", api.MaxText)), is(txt(strings.Repeat("b", api.MaxText)))},
		{prefix("b"), in(txt("b"))}, {prefix("b"), is(txt("b"))},
		{between(num(1), num(1)), is(num(1))}, {between(num(1), num(1)), in(num(1))}, {less(num(1)), is(num(0))},
		{less(num(1)), in(num(0))}, {most(truth(false)), is(truth(false))}, {most(truth(true)), in(truth(false), truth(true))},
		{not(num(1)), less(num(1))}, {not(num(1)), is(num(2))}, {not(nan), in(num(1))}, {not(num(1)), between(num(0), num(9))},
		{has(), least(num(0))}, {has(), is(num(1))}, {has(), in(num(1))}, {has(), between(num(0), num(1))},
	} {
		wantImplies(t, c.q, c.p, false)
	}
}

// What fits first decides, where one behind it would tell otherwise.
func TestImpliesByTheFirstThatFits(t *testing.T) {
	// The first, not the fourth.
	wantImplies(t, is(nan), is(num(1)), true)
	// The first, not the sixth.
	wantImplies(t, less(nan), most(num(1)), true)
	wantImplies(t, between(num(5), num(4)), more(num(9)), true)
	wantImplies(t, between(num(1), txt("a")), between(num(2), num(3)), true)
	// The first, not the eighth.
	wantImplies(t, more(nan), prefix("a"), true)
	wantImplies(t, in(nan), prefix("a"), true)
	wantImplies(t, not(nan), has(), true)
	// The second, not the third.
	wantImplies(t, not(nan), not(nan), true)
	// The third, not the second, of two that are not the Same.
	wantImplies(t, not(num(2)), not(fl(2)), true)
	// The third, not the eighth.
	wantImplies(t, prefix("a"), not(txt("b")), true)
	wantImplies(t, not(num(2)), not(num(3)), false)
	// The fourth and the fifth, not the seventh.
	wantImplies(t, is(txt("ab")), prefix("a"), true)
	wantImplies(t, in(txt("ab")), prefix("a"), true)
	// The fourth and the fifth, not the eighth.
	wantImplies(t, is(num(1)), between(num(0), num(2)), true)
	wantImplies(t, in(num(1)), between(num(0), num(2)), true)
	wantImplies(t, is(num(1)), in(num(1)), true)
	wantImplies(t, in(num(1)), is(num(1)), true)
}

// 6.5

func TestImpliesMeansThatAllIsTaken(t *testing.T) {
	tests, values := manyTests(), manyValues()
	takes := make([][]bool, len(tests))
	for i, p := range tests {
		for _, v := range values {
			takes[i] = append(takes[i], pred.Takes(p, v))
		}
	}
	for i, q := range tests {
		for k, p := range tests {
			if !pred.Implies(q, p) {
				continue
			}
			for n, v := range values {
				if takes[i][n] && !takes[k][n] {
					t.Fatalf("Implies(%+v, %+v), but for %+v", q, p, v)
				}
			}
		}
	}
}
