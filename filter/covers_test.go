package filter_test

import (
	"math"
	"slices"
	"testing"

	"precentor/api"
	"precentor/filter"
	"precentor/pred"
)

func wantCovers(t *testing.T, f, g []api.Pred, want bool) {
	t.Helper()
	if covers := filter.Covers(f, g); covers != want {
		t.Errorf("Covers(%+v, %+v): %t; want %t", f, g, covers, want)
	}
}

// voids are tests that are seen to take nothing.
func voids(name string) []api.Pred {
	return []api.Pred{
		is(name, nan), less(name, nan), most(name, nan), more(name, nan), least(name, nan),
		between(name, num(5), num(4)), between(name, num(1), txt("x")), between(name, nan, nan),
		in(name, nan), in(name, nan, fl(math.Float64frombits(0xfff0000000000001))),
	}
}

// standing are the values that stand in manyTests.
func standing() []api.Value {
	return []api.Value{num(1), num(2), fl(2), fl(2.5), fl(negative), nan, fl(inf), txt(""), txt("a"), txt("ab"), truth(true)}
}

// manyTests has each Test of that name with each of standing, or some two of
// them, and ones that are not right.
func manyTests(name string) []api.Pred {
	all := append(wrongTests(name), has(name))
	for i, v := range standing() {
		all = append(all, is(name, v), not(name, v), less(name, v), most(name, v), more(name, v), least(name, v))
		if v.Kind == api.KText {
			all = append(all, prefix(name, v.S))
		}
		for _, w := range standing()[i:] {
			all = append(all, between(name, v, w), in(name, w, v))
		}
	}
	return all
}

// manyFilters are of no, one and several tests, right and not, on the names a
// and b; most of the tests of manyTests stand in one of several.
func manyFilters() [][]api.Pred {
	as, bs := manyTests("a"), manyTests("b")
	all := rows(nil, of(has("b"), has("a")), slices.Repeat(of(has("a")), api.MaxPreds+1))
	for i, p := range as {
		q, r := as[i*7%len(as)], bs[i*5%len(bs)]
		all = append(all, of(p), of(bs[i]), of(p, q), of(p, r), of(p, q, r))
	}
	return all
}

// manyAttributes has of each of a and b none, or one of values at, about and
// far from what stands in manyTests.
func manyAttributes() [][]api.Attr {
	values := []api.Value{
		nan, fl(inf), fl(-inf), fl(0), num(0), num(1), fl(1.5), num(2), fl(2), fl(2.5), num(3), txt(""), txt("a"),
		txt("aa"), txt("ab"), txt("abc"), txt("b"), truth(false), truth(true), {}, tooLong, {Kind: api.KInt, N: 2, S: "a"},
	}
	all := [][]api.Attr{nil, attrs(at("c", num(1)))}
	for i, v := range values {
		all = append(all, attrs(at("a", v)), attrs(at("b", v)))
		for k := range 4 {
			all = append(all, attrs(at("a", v), at("b", values[(i+5*k)%len(values)])))
		}
	}
	return all
}

// 7.2

func TestCoversOfNoneOnEitherSide(t *testing.T) {
	wantCovers(t, nil, nil, true)
	wantCovers(t, of(), nil, true)
	wantCovers(t, nil, of(), true)
	for _, p := range append(eachTest("a"), wrongTests("b")...) {
		wantCovers(t, nil, of(p), true)
		wantCovers(t, of(), of(p, p), true)
		wantCovers(t, of(p)[:0], of(p), true)
		wantCovers(t, of(p), nil, false)
		wantCovers(t, of(p), of(), false)
		wantCovers(t, of(p), of(p)[:0], false)
	}
	for _, p := range voids("a") {
		wantCovers(t, of(p), nil, false)
		wantCovers(t, nil, of(p), true)
	}
}

func TestCoversOfAVoidTestOfTheSecond(t *testing.T) {
	for _, void := range voids("b") {
		for _, p := range slices.Concat(eachTest("a"), eachTest("b"), eachTest("c"), wrongTests("b"), voids("a")) {
			wantCovers(t, of(p), of(void), true)
			wantCovers(t, of(p, p), of(void), true)
			wantCovers(t, of(p), of(has("a"), void), true)
			wantCovers(t, of(p), of(void, has("c")), true)
			wantCovers(t, of(p), of(has("a"), void, has("c")), true)
			// Though others beside it are not right, or fall.
			wantCovers(t, of(p), of(api.Pred{}, void), true)
			wantCovers(t, of(p), of(has("z"), has("y"), has("x"), void), true)
		}
	}
}

func TestCoversOfAVoidTestOfTheFirst(t *testing.T) {
	for _, void := range voids("a") {
		wantCovers(t, of(void), of(has("a")), false)
		wantCovers(t, of(void), of(more("a", num(3))), false)
		wantCovers(t, of(void, has("a")), of(has("a")), false)
		wantCovers(t, of(has("a"), void), of(has("a")), false)
		wantCovers(t, of(void), of(void), true)
		for _, other := range voids("b") {
			wantCovers(t, of(void), of(other), true)
		}
	}
}

// Ones that take nothing and are not Void are as others are.
func TestCoversOfOnesThatOnlyTakeNothing(t *testing.T) {
	wantCovers(t, of(is("a", num(1))), of(less("a", truth(false))), false)
	wantCovers(t, of(is("b", num(1))), of(is("a", num(1)), is("a", num(2))), false)
	// One that is not right takes nothing, and is not Void.
	wantCovers(t, of(has("a")), of(is("a", api.Value{})), false)
	wantCovers(t, of(has("a")), of(api.Pred{Name: "a", Test: api.TIs, V: nan, W: nan}), false)
}

func TestCoversOfNamesThatDiffer(t *testing.T) {
	for _, p := range eachTest("b") {
		for _, name := range []string{"a", "c", "ba", "bb", "", "B"} {
			other := p
			other.Name = name
			wantCovers(t, of(p), of(other), false)
			wantCovers(t, of(p), of(other, other), false)
			wantCovers(t, of(p), of(p, other), true)
			wantCovers(t, of(p), of(other, p), true)
			wantCovers(t, of(p, other), of(p), false)
			wantCovers(t, of(other, p), of(p), false)
		}
		// Though all that has the one of a has no less.
		wantCovers(t, of(has("a")), of(p), false)
		wantCovers(t, of(has("b")), of(p), true)
	}
	// What each asks of one name, the other asks of the other one.
	wantCovers(t, of(more("a", num(3)), more("b", num(5))), of(more("a", num(5)), more("b", num(3))), false)
	wantCovers(t, of(more("a", num(3)), more("b", num(3))), of(more("a", num(5)), more("b", num(5))), true)
}

func TestCoversOfOneImpliedByOneOfSeveral(t *testing.T) {
	narrow := of(more("a", num(5)), less("a", num(9)), prefix("b", "abc"))
	for _, p := range []api.Pred{
		has("a"), more("a", num(5)), more("a", num(3)), least("a", fl(5)), not("a", num(5)), less("a", num(9)),
		most("a", num(9)), less("a", fl(9.5)), not("a", num(9)), prefix("b", "ab"), prefix("b", "abc"), has("b"), least("b", txt("abc")),
	} {
		wantCovers(t, of(p), narrow, true)
		wantCovers(t, of(p), of(narrow[2], narrow[1], narrow[0]), true)
	}
	for _, p := range []api.Pred{more("a", num(6)), less("a", num(8)), prefix("b", "abcd"), is("a", num(7)), has("c")} {
		wantCovers(t, of(p), narrow, false)
		wantCovers(t, of(has("a"), p), narrow, false)
		wantCovers(t, of(p, has("a")), narrow, false)
		wantCovers(t, of(has("a"), p, has("b")), narrow, false)
	}
	// One of the second for several of the first.
	wantCovers(t, of(more("a", num(3)), less("a", num(9))), of(between("a", num(4), num(8))), true)
	wantCovers(t, of(more("a", num(3)), less("a", num(8))), of(between("a", num(4), num(8))), false)
	wantCovers(t, of(more("a", num(4)), less("a", num(9))), of(between("a", num(4), num(8))), false)
}

// One test of the second is to imply it by itself.
func TestCoversOfOneThatOnlyTwoTogetherWouldImply(t *testing.T) {
	for _, c := range []struct {
		p api.Pred
		g []api.Pred
	}{
		{between("a", num(4), num(8)), of(least("a", num(4)), most("a", num(8)))},
		{between("a", num(4), num(8)), of(more("a", num(5)), less("a", num(6)))},
		{is("a", num(4)), of(least("a", num(4)), most("a", num(4)))},
		{in("a", num(4), num(5)), of(in("a", num(4), num(6)), in("a", num(5), num(4), num(7)))},
		{more("a", num(4)), of(least("a", num(4)), not("a", num(4)))},
		{is("a", truth(true)), of(least("a", truth(false)), not("a", truth(false)))},
	} {
		wantCovers(t, of(c.p), c.g, false)
		wantCovers(t, of(c.p), of(c.g[1], c.g[0]), false)
		for _, l := range manyAttributes() {
			if filter.Takes(c.g, l) && !filter.Takes(of(c.p), l) {
				t.Errorf("%+v is taken by %+v, not by %+v", l, c.g, c.p)
			}
		}
	}
}

func TestCoversLooksForEachOfTheFirst(t *testing.T) {
	a, b, c := has("a"), has("b"), has("c")
	wantCovers(t, of(a), of(a, b, c), true)
	wantCovers(t, of(b, c), of(a, b, c), true)
	wantCovers(t, of(a, b, c), of(a, b, c), true)
	wantCovers(t, of(a, b, c), of(a, b), false)
	wantCovers(t, of(a, b, c), of(b, c), false)
	wantCovers(t, of(a, b, c), of(a, c), false)
	wantCovers(t, of(a, a, a), of(a), true)
	wantCovers(t, of(a), of(a, a), true)
}

func TestCoversIsNoOrderOfSides(t *testing.T) {
	low, high := of(more("a", num(3))), of(more("a", num(5)))
	wantCovers(t, low, high, true)
	wantCovers(t, high, low, false)
	// Ones that differ, and each covers the other one.
	whole, part := of(is("a", num(2))), of(is("a", fl(2)))
	wantCovers(t, whole, part, true)
	wantCovers(t, part, whole, true)
}

func TestCoversOfItself(t *testing.T) {
	for _, p := range append(eachTest("a"), not("a", nan), is("a", nan)) {
		wantCovers(t, of(p), of(p), true)
		for _, q := range eachTest("b") {
			wantCovers(t, of(p, q), of(p, q), true)
		}
	}
}

func TestCoversOfFiltersThatAreNotRight(t *testing.T) {
	for _, wrong := range wrongTests("b") {
		// One that is not right is not implied, not by itself either, and
		// implies none.
		wantCovers(t, of(wrong), of(wrong), false)
		wantCovers(t, of(has("b")), of(wrong), false)
		wantCovers(t, of(wrong), of(has("b")), false)
		wantCovers(t, of(has(wrong.Name)), of(wrong), false)
		wantCovers(t, of(has("a"), wrong), of(has("a"), is("b", num(3))), false)
		wantCovers(t, of(wrong, has("c")), of(is("b", num(3)), has("c")), false)
		// Beside others it is not in the way.
		wantCovers(t, of(has("a")), of(is("a", num(1)), wrong), true)
		wantCovers(t, of(has("a")), of(wrong, is("a", num(1))), true)
		wantCovers(t, nil, of(wrong), true)
	}
	// Ones that fall, or are too many.
	wantCovers(t, of(has("b"), has("a")), of(has("a"), has("b")), true)
	wantCovers(t, of(has("a"), has("b")), of(has("b"), has("a")), true)
	wantCovers(t, of(has("a"), has("a"), has("b"), has("b")), of(has("b"), has("a")), true)
	wantCovers(t, of(has("a"), has("a"), has("b"), has("c")), of(has("b"), has("a")), false)
	wantCovers(t, of(has("e")), of(has("a"), has("b"), has("c"), has("d"), has("e")), true)
}

// asTold is 7.2 word by word.
func asTold(f, g []api.Pred) bool {
	void, each := false, 0
	for _, q := range g {
		void = void || pred.Void(q)
	}
	for _, p := range f {
		for _, q := range g {
			if q.Name == p.Name && pred.Implies(q, p) {
				each++
				break
			}
		}
	}
	return void || each == len(f)
}

func TestCoversOfManyIsAsTold(t *testing.T) {
	many := manyFilters()
	covering := 0
	for i, f := range many {
		for k := i % 3; k < len(many); k += 3 {
			want := asTold(f, many[k])
			if want {
				covering++
			}
			wantCovers(t, f, many[k], want)
		}
	}
	if covering < 1000 {
		t.Errorf("only %d cover one another", covering)
	}
}

// What 7.4 leans on.
func TestCoversMeansThatAllIsTaken(t *testing.T) {
	many, attributes := manyFilters(), manyAttributes()
	for i, f := range many {
		for k := i % 7; k < len(many); k += 7 {
			if !filter.Covers(f, many[k]) {
				continue
			}
			for _, l := range attributes {
				if filter.Takes(many[k], l) && !filter.Takes(f, l) {
					t.Errorf("%+v is taken by %+v, not by %+v, which covers it", l, many[k], f)
				}
			}
		}
	}
}
