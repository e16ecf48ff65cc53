package filter_test

import (
	"math"
	"slices"
	"strings"
	"testing"

	"precentor/api"
	"precentor/filter"
	"precentor/pred"
	"precentor/value"
)

var (
	inf      = math.Inf(1)
	negative = math.Copysign(0, -1)
	nan      = value.Float(math.NaN())
	tooLong  = value.Text(strings.Repeat("x", api.MaxText+1))
)

func num(n int64) api.Value  { return value.Int(n) }
func fl(x float64) api.Value { return value.Float(x) }
func txt(s string) api.Value { return value.Text(s) }
func truth(b bool) api.Value { return value.Bool(b) }

func has(name string) api.Pred { return api.Pred{Name: name, Test: api.THas} }
func is(name string, v api.Value) api.Pred {
	return api.Pred{Name: name, Test: api.TIs, V: v}
}
func not(name string, v api.Value) api.Pred {
	return api.Pred{Name: name, Test: api.TNot, V: v}
}
func less(name string, v api.Value) api.Pred {
	return api.Pred{Name: name, Test: api.TLess, V: v}
}
func most(name string, v api.Value) api.Pred {
	return api.Pred{Name: name, Test: api.TMost, V: v}
}
func more(name string, v api.Value) api.Pred {
	return api.Pred{Name: name, Test: api.TMore, V: v}
}
func least(name string, v api.Value) api.Pred {
	return api.Pred{Name: name, Test: api.TLeast, V: v}
}
func between(name string, v, w api.Value) api.Pred {
	return api.Pred{Name: name, Test: api.TRange, V: v, W: w}
}
func prefix(name, s string) api.Pred {
	return api.Pred{Name: name, Test: api.TPrefix, V: txt(s)}
}
func in(name string, set ...api.Value) api.Pred {
	return api.Pred{Name: name, Test: api.TIn, Set: set}
}

// of is a filter of these tests.
func of(tests ...api.Pred) []api.Pred { return tests }

// rows is a list of these filters.
func rows(filters ...[]api.Pred) [][]api.Pred { return filters }

// at is an attribute.
func at(name string, v api.Value) api.Attr { return api.Attr{Name: name, V: v} }

// attrs is a list of these attributes.
func attrs(l ...api.Attr) []api.Attr { return l }

// eachTest has one of each of the ten, right, with that name.
func eachTest(name string) []api.Pred {
	return []api.Pred{
		has(name), is(name, num(3)), not(name, num(3)), less(name, num(3)), most(name, num(3)), more(name, num(3)),
		least(name, num(3)), between(name, num(3), num(5)), prefix(name, "ab"), in(name, num(3), txt("ab")),
	}
}

// wrongTests are some that are not right, each for a reason of its own.
func wrongTests(name string) []api.Pred {
	return []api.Pred{
		{Name: name}, {Name: name, Test: -1}, {Name: name, Test: 11}, {Name: name, Test: 11, V: num(3)},
		is(name, api.Value{}), is(name, tooLong), is(name, api.Value{Kind: api.KInt, N: 3, S: "x"}),
		{Name: name, Test: api.THas, V: num(3)}, {Name: name, Test: api.THas, Set: []api.Value{num(3)}},
		{Name: name, Test: api.TPrefix, V: num(3)}, between(name, num(3), api.Value{}), in(name),
		in(name, num(1), num(2), num(3), num(4), num(5)), in(name, num(3), tooLong),
		has(name + "toolong"), has(strings.ToUpper(name)), has(""),
	}
}

// alikeValue tells whether a and b are the same to the bit.
func alikeValue(a, b api.Value) bool {
	return a.Kind == b.Kind && a.N == b.N && a.S == b.S && a.B == b.B &&
		math.Float64bits(a.X) == math.Float64bits(b.X)
}

func alikeTest(a, b api.Pred) bool {
	return a.Name == b.Name && a.Test == b.Test && alikeValue(a.V, b.V) && alikeValue(a.W, b.W) &&
		slices.EqualFunc(a.Set, b.Set, alikeValue)
}

func alike(f, g []api.Pred) bool {
	return slices.EqualFunc(f, g, alikeTest)
}

func alikeRows(a, b [][]api.Pred) bool {
	return slices.EqualFunc(a, b, alike)
}

func wantRight(t *testing.T, f []api.Pred, want bool) {
	t.Helper()
	if right := filter.Right(f); right != want {
		t.Errorf("Right(%+v): %t; want %t", f, right, want)
	}
}

func wantTakes(t *testing.T, f []api.Pred, l []api.Attr, want bool) {
	t.Helper()
	if took := filter.Takes(f, l); took != want {
		t.Errorf("Takes(%+v, %+v): %t; want %t", f, l, took, want)
	}
}

func wantAny(t *testing.T, l [][]api.Pred, a []api.Attr, want bool) {
	t.Helper()
	if took := filter.Any(l, a); took != want {
		t.Errorf("Any(%+v, %+v): %t; want %t", l, a, took, want)
	}
}

func wantSame(t *testing.T, f, g []api.Pred, want bool) {
	t.Helper()
	if filter.Same(f, g) != want || filter.Same(g, f) != want {
		t.Errorf("Same(%+v, %+v): %t, turned round %t; want %t", f, g, filter.Same(f, g), filter.Same(g, f), want)
	}
}

// 7.1 Right

func TestRightByHowMany(t *testing.T) {
	wantRight(t, nil, true)
	wantRight(t, of(), true)
	for n := range 3 * api.MaxPreds {
		wantRight(t, slices.Repeat(of(has("a")), n), n <= api.MaxPreds)
		var rising []api.Pred
		for i := range n {
			rising = append(rising, has(string(rune('a'+i))))
		}
		wantRight(t, rising, n <= api.MaxPreds)
	}
	wantRight(t, slices.Repeat(of(has("a")), 1<<8), false)
	wantRight(t, slices.Repeat(of(has("a")), 1<<16+1), false)
}

func TestRightOfEachTest(t *testing.T) {
	for _, p := range eachTest("a") {
		wantRight(t, of(p), true)
		for _, q := range eachTest("b") {
			wantRight(t, of(p, q), true)
			wantRight(t, of(q, p), false)
			wantRight(t, of(p, p, q), true)
			wantRight(t, of(p, q, q), true)
		}
	}
	// Ones that take nothing are right, too.
	wantRight(t, of(is("a", nan), between("a", num(5), num(4)), in("b", nan)), true)
}

func TestRightOfOneThatIsNotRightAmongRightOnes(t *testing.T) {
	for _, wrong := range wrongTests("b") {
		if pred.Right(wrong) {
			t.Errorf("%+v is right", wrong)
		}
		wantRight(t, of(wrong), false)
		wantRight(t, of(wrong, has("c")), false)
		wantRight(t, of(has("a"), wrong), false)
		wantRight(t, of(wrong, has("c"), has("d")), false)
		wantRight(t, of(has("a"), wrong, has("c")), false)
		wantRight(t, of(has("a"), has("b"), wrong), false)
	}
	wantRight(t, of(api.Pred{}), false)
	wantRight(t, of(api.Pred{}, api.Pred{}), false)
}

func TestRightByNamesThatRiseStayAndFall(t *testing.T) {
	for _, c := range []struct {
		names string
		want  bool
	}{
		{"a b", true}, {"a a", true}, {"b a", false},
		{"a b c", true}, {"a a b", true}, {"a b b", true}, {"a a a", true},
		{"a c b", false}, {"b a c", false}, {"b a a", false}, {"b a b", false},
		{"a b a", false}, {"b b a", false}, {"b c a", false}, {"c b a", false},
		// By their bytes, not by how long they are.
		{"a aa", true}, {"aa a", false}, {"aa b", true}, {"b aa", false},
		{"ab abc", true}, {"abc ab", false}, {"abcdef b", true}, {"b abcdef", false},
		{"aaaaaz aaaaba", true}, {"aaaaba aaaaaz", false},
	} {
		var f []api.Pred
		for _, name := range strings.Fields(c.names) {
			f = append(f, has(name))
		}
		wantRight(t, f, c.want)
	}
}

// What else is in tests of one Name has no order.
func TestRightOfTestsOnOneNameInAnyOrder(t *testing.T) {
	for _, p := range eachTest("a") {
		for _, q := range eachTest("a") {
			wantRight(t, of(p, q), true)
		}
	}
}

// 7.1 Takes

func TestTakesOfNone(t *testing.T) {
	for _, l := range [][]api.Attr{nil, {}, attrs(at("a", num(1))), attrs(at("a", nan), at("b", txt("x"))), attrs(at("", api.Value{}))} {
		wantTakes(t, nil, l, true)
		wantTakes(t, of(), l, true)
		// What stands in the room behind is not asked.
		wantTakes(t, of(has("q"), is("a", num(9)))[:0], l, true)
	}
}

func TestTakesOfAnAttributeThatIsNotThere(t *testing.T) {
	for _, p := range append(eachTest("b"), not("b", nan), prefix("b", "")) {
		for _, l := range [][]api.Attr{
			nil, {}, attrs(at("a", num(3))), attrs(at("a", num(3)), at("c", num(3))),
			attrs(at("ba", num(3)), at("bb", txt("ab"))), attrs(at("B", num(3))), attrs(at("", num(3))),
		} {
			wantTakes(t, of(p), l, false)
			wantTakes(t, of(has("a"), p), l, false)
			wantTakes(t, of(p, p), l, false)
		}
	}
	l := attrs(at("a", num(3)), at("c", num(3)))
	wantTakes(t, of(has("a"), has("c")), l, true)
	wantTakes(t, of(has("a"), has("b"), has("c")), l, false)
	wantTakes(t, of(has("a"), has("c"), has("d")), l, false)
	wantTakes(t, of(has("_"), has("a"), has("c")), l, false)
	// Nor in the room behind.
	wantTakes(t, of(has("c")), l[:1], false)
}

func TestTakesOfOneThatIsThereAndNotTaken(t *testing.T) {
	l := attrs(at("a", num(4)), at("b", txt("xy")), at("c", nan))
	taken := of(has("a"), is("a", fl(4)), not("b", num(4)), prefix("b", "x"), not("c", nan), has("c"))
	missed := of(is("a", num(5)), not("a", fl(4)), more("a", num(4)), less("a", txt("z")), prefix("a", ""),
		prefix("b", "y"), in("b", txt("x"), num(4)), is("b", txt("x")), is("c", nan), in("c", nan), least("c", fl(-inf)))
	for _, m := range missed {
		wantTakes(t, of(m), l, false)
		for _, p := range taken {
			wantTakes(t, of(p, m), l, false)
			wantTakes(t, of(m, p), l, false)
			wantTakes(t, of(p, m, p), l, false)
		}
	}
}

func TestTakesOfAllTaken(t *testing.T) {
	l := attrs(at("a", num(4)), at("b", txt("xy")), at("c", nan), at("d", truth(true)))
	taken := of(has("a"), is("a", fl(4)), least("a", num(4)), between("a", fl(3.5), num(4)), prefix("b", "x"),
		not("b", num(4)), in("b", num(4), txt("xy")), has("c"), not("c", nan), is("d", truth(true)))
	wantTakes(t, taken, l, true)
	for _, p := range taken {
		wantTakes(t, of(p), l, true)
		for _, q := range taken {
			wantTakes(t, of(p, q), l, true)
		}
	}
}

func TestTakesOfTwoTestsOnOneName(t *testing.T) {
	f := of(more("a", num(3)), less("a", num(6)))
	for n := range int64(9) {
		wantTakes(t, f, attrs(at("a", num(n))), n > 3 && n < 6)
		wantTakes(t, of(f[1], f[0]), attrs(at("a", num(n))), n > 3 && n < 6)
		wantTakes(t, append(f, not("a", num(4))), attrs(at("a", num(n))), n == 5)
	}
	// Ones that no value stands both of.
	for n := range int64(9) {
		wantTakes(t, of(more("a", num(5)), less("a", num(3))), attrs(at("a", num(n))), false)
	}
}

// The first of a Name is the one that attr.Get finds.
func TestTakesOfAttributesThatAreNotRight(t *testing.T) {
	twice := attrs(at("a", num(1)), at("a", num(2)))
	wantTakes(t, of(is("a", num(1))), twice, true)
	wantTakes(t, of(is("a", num(2))), twice, false)
	wantTakes(t, of(is("a", num(1)), is("a", num(2))), twice, false)
	fallen := attrs(at("c", num(3)), at("b", num(2)), at("a", num(1)))
	wantTakes(t, of(is("a", num(1)), is("b", num(2)), is("c", num(3))), fallen, true)
	for _, v := range []api.Value{{}, {Kind: 7}, tooLong} {
		wantTakes(t, of(has("a"), not("a", num(1))), attrs(at("a", v)), true)
		wantTakes(t, of(is("a", num(0))), attrs(at("a", v)), false)
	}
	var many []api.Attr
	for i := range 20 {
		many = append(many, at(string(rune('a'+i)), num(int64(i))))
	}
	wantTakes(t, of(is("a", num(0)), is("t", num(19))), many, true)
}

func TestTakesOfFiltersThatAreNotRight(t *testing.T) {
	l := attrs(at("", num(3)), at("B", num(3)), at("a", num(3)), at("b", num(3)), at("btoolong", num(3)), at("c", num(3)), at("d", num(3)))
	// One that is not right takes nothing, and all are asked.
	for _, wrong := range wrongTests("b") {
		wantTakes(t, of(wrong), l, false)
		wantTakes(t, of(wrong, has("c")), l, false)
		wantTakes(t, of(has("a"), wrong), l, false)
		wantTakes(t, of(has("a"), wrong, has("c")), l, false)
	}
	wantTakes(t, of(api.Pred{}), attrs(api.Attr{}), false)
	// Ones that fall, or are too many, are each asked as they are.
	wantTakes(t, of(has("b"), has("a")), l, true)
	wantTakes(t, of(has("b"), is("a", num(4))), l, false)
	wantTakes(t, of(has("a"), has("b"), has("c"), has("d")), l, true)
	wantTakes(t, of(has("a"), has("b"), has("c"), has("e")), l, false)
	wantTakes(t, append(slices.Repeat(of(has("a")), 9), is("a", num(4))), l, false)
}

// 7.1 Any

func TestAnyOfNone(t *testing.T) {
	for _, l := range [][]api.Attr{nil, {}, attrs(at("a", num(1)))} {
		wantAny(t, nil, l, false)
		wantAny(t, rows(), l, false)
		wantAny(t, rows(nil, of(has("a")))[:0], l, false)
	}
}

func TestAnyOfOne(t *testing.T) {
	for n := range int64(5) {
		wantAny(t, rows(of(more("a", num(2)))), attrs(at("a", num(n))), n > 2)
	}
	wantAny(t, rows(of(has("a"))), nil, false)
	// One without tests is one, and takes all.
	wantAny(t, rows(nil), nil, true)
	wantAny(t, rows(of()), attrs(at("a", num(1))), true)
}

func TestAnyOfSeveral(t *testing.T) {
	one, two, three := of(is("a", num(1))), of(is("a", num(2))), of(is("a", num(3)), has("b"))
	list := rows(one, two, three)
	wantAny(t, list, attrs(at("a", num(1))), true)
	wantAny(t, list, attrs(at("a", num(2))), true)
	// The last alone.
	wantAny(t, list, attrs(at("a", num(3)), at("b", num(0))), true)
	wantAny(t, list, attrs(at("a", num(3))), false)
	wantAny(t, list, attrs(at("a", num(4)), at("b", num(0))), false)
	wantAny(t, list, nil, false)
	wantAny(t, append(list, nil), nil, true)
	// Not a test of one and a test of another one.
	wantAny(t, rows(of(has("a"), has("c")), of(has("b"), has("d"))), attrs(at("a", num(1)), at("b", num(1))), false)
}

func TestAnyOfFiltersThatAreNotRight(t *testing.T) {
	l := attrs(at("a", num(3)), at("b", num(3)))
	for _, wrong := range wrongTests("a") {
		wantAny(t, rows(of(wrong)), l, false)
		wantAny(t, rows(of(wrong), of(has("b"), wrong)), l, false)
		wantAny(t, rows(of(wrong), of(has("b"))), l, true)
		wantAny(t, rows(of(has("b")), of(wrong)), l, true)
	}
	wantAny(t, rows(of(has("b"), has("a"))), l, true)
}

// 7.1 Same

func TestSameOfFiltersThatAreAlike(t *testing.T) {
	filters := rows(nil, of(api.Pred{}), of(has("b"), has("a")), slices.Repeat(of(has("a")), 9))
	for _, p := range append(eachTest("a"), wrongTests("b")...) {
		filters = append(filters, of(p), of(has("a"), p), of(p, p, has("c")))
	}
	for _, f := range filters {
		wantSame(t, f, f, true)
		var other []api.Pred
		for _, p := range f {
			p.Name, p.V.S, p.Set = strings.Clone(p.Name), strings.Clone(p.V.S), slices.Clone(p.Set)
			other = append(other, p)
		}
		wantSame(t, f, other, true)
	}
}

func TestSameOfNilAndAnEmptyList(t *testing.T) {
	wantSame(t, nil, nil, true)
	wantSame(t, nil, of(), true)
	wantSame(t, of(has("a"))[:0], of(has("b"))[:0], true)
	wantSame(t, of(has("a")), of(api.Pred{Name: "a", Test: api.THas, Set: []api.Value{}}), true)
}

func TestSameOfOneThingThatDiffers(t *testing.T) {
	p := api.Pred{Name: "a", Test: api.TRange, V: num(1), W: num(2), Set: []api.Value{num(3), num(4)}}
	differ := func(turn func(p *api.Pred)) api.Pred {
		other := p
		other.Set = slices.Clone(p.Set)
		turn(&other)
		return other
	}
	for _, other := range []api.Pred{
		differ(func(p *api.Pred) { p.Name = "b" }),
		differ(func(p *api.Pred) { p.Name = "" }),
		differ(func(p *api.Pred) { p.Name = "aa" }),
		differ(func(p *api.Pred) { p.Test = api.TIn }),
		differ(func(p *api.Pred) { p.V = num(2) }),
		differ(func(p *api.Pred) { p.V = fl(1) }),
		differ(func(p *api.Pred) { p.V.S = "x" }),
		differ(func(p *api.Pred) { p.W = num(1) }),
		differ(func(p *api.Pred) { p.W = fl(2) }),
		differ(func(p *api.Pred) { p.W.B = true }),
		differ(func(p *api.Pred) { p.Set[0] = num(4) }),
		differ(func(p *api.Pred) { p.Set[1] = fl(4) }),
		differ(func(p *api.Pred) { p.Set[1] = num(5) }),
		differ(func(p *api.Pred) { p.Set = p.Set[:1] }),
		differ(func(p *api.Pred) { p.Set = p.Set[1:] }),
		differ(func(p *api.Pred) { p.Set = nil }),
		differ(func(p *api.Pred) { p.Set = append(p.Set, num(4)) }),
		differ(func(p *api.Pred) { p.Set = append(p.Set, api.Value{}) }),
		differ(func(p *api.Pred) { slices.Reverse(p.Set) }),
	} {
		for n := range 4 {
			for place := range n {
				f, g := slices.Repeat(of(p), n), slices.Repeat(of(p), n)
				wantSame(t, f, g, true)
				g[place] = other
				wantSame(t, f, g, false)
			}
		}
	}
}

func TestSameOfOtherNumbers(t *testing.T) {
	for n := range 6 {
		for m := range 6 {
			wantSame(t, slices.Repeat(of(has("a")), n), slices.Repeat(of(has("a")), m), n == m)
		}
	}
	wantSame(t, nil, of(api.Pred{}), false)
	wantSame(t, of(has("a")), of(has("a"), api.Pred{}), false)
}

func TestSameOfAnotherOrder(t *testing.T) {
	a, b := more("a", num(1)), less("a", num(2))
	wantSame(t, of(a, b), of(b, a), false)
	wantSame(t, of(a, a, b), of(a, b, b), false)
	wantSame(t, of(a, b, a), of(a, a, b), false)
	wantSame(t, of(in("a", num(1), num(2))), of(in("a", num(2), num(1))), false)
	wantSame(t, of(in("a", num(1), num(1), num(2))), of(in("a", num(1), num(2), num(2))), false)
}

func TestSameTellsValuesByValueSame(t *testing.T) {
	other := fl(math.Float64frombits(0xfff0000000000001))
	wantSame(t, of(is("a", nan)), of(is("a", other)), true)
	wantSame(t, of(has("a"), in("b", num(1), nan)), of(has("a"), in("b", num(1), other)), true)
	wantSame(t, of(is("a", fl(0))), of(is("a", fl(negative))), true)
	wantSame(t, of(is("a", num(0))), of(is("a", fl(0))), false)
}

// 7.1 Copy

// several are filters to copy, right and not.
func several() [][]api.Pred {
	odd := fl(math.Float64frombits(0xfff0000000000001))
	l := rows(
		of(has("a")),
		of(in("a", num(1), num(2)), in("a", num(1), num(2)), in("b", odd, fl(negative), txt("x"), truth(true))),
		of(is("b", odd), between("a", fl(negative), odd)),
		of(api.Pred{}, api.Pred{Name: "?", Test: -3, V: tooLong, W: num(1), Set: []api.Value{{}, tooLong}}),
		slices.Repeat(of(in("a", num(1))), 9),
	)
	for _, p := range append(eachTest("a"), wrongTests("b")...) {
		l = append(l, of(p), of(p, has("c"), p))
	}
	return l
}

// again is f anew, each part of it in memory of its own.
func again(f []api.Pred) []api.Pred {
	var out []api.Pred
	for _, p := range f {
		p.Set = append([]api.Value(nil), p.Set...)
		out = append(out, p)
	}
	return out
}

// roomy is f anew with spare room behind it and behind each Set; whole is that
// room with f ahead of it.
func roomy(f []api.Pred) (short, whole []api.Pred) {
	for _, p := range f {
		set := append(append([]api.Value(nil), p.Set...), txt("spare"), num(7))
		p.Set = set[:len(p.Set)]
		whole = append(whole, p)
	}
	whole = append(whole, in("spare", num(7), num(8)), is("room", nan))
	return whole[:len(f)], whole
}

// withRoom has each Set of f as long as it can be.
func withRoom(f []api.Pred) []api.Pred {
	out := slices.Clone(f)
	for i := range out {
		out[i].Set = out[i].Set[:cap(out[i].Set)]
	}
	return out
}

// spoil writes to each place of f, of its Sets and of the room behind them.
func spoil(f []api.Pred) {
	whole := f[:cap(f)]
	for i := range whole {
		set := whole[i].Set[:cap(whole[i].Set)]
		for k := range set {
			set[k] = txt("spoilt")
		}
		whole[i] = has("spoilt")
	}
}

// stays asks that call changes nothing of f, nor of the room in it.
func stays(t *testing.T, name string, f []api.Pred, call func(f []api.Pred)) {
	t.Helper()
	short, whole := roomy(f)
	before := withRoom(again(withRoom(whole)))
	call(short)
	if !alike(withRoom(whole), before) {
		t.Errorf("%s: left %+v of %+v", name, withRoom(whole), before)
	}
}

func TestCopyOfNone(t *testing.T) {
	for _, f := range rows(nil, of(), of(has("a"), in("b", num(1)))[:0]) {
		if c := filter.Copy(f); len(c) != 0 {
			t.Errorf("Copy(%+v): %+v", f, c)
		}
	}
}

func TestCopyOfSeveral(t *testing.T) {
	for _, f := range several() {
		if c := filter.Copy(f); !alike(c, f) {
			t.Errorf("Copy(%+v): %+v", f, c)
		}
	}
}

func TestCopyIsNewMemory(t *testing.T) {
	for _, f := range append(several(), nil) {
		want := again(f)
		short, whole := roomy(f)
		before := again(withRoom(whole))
		first, second := filter.Copy(short), filter.Copy(short)
		spoil(first)
		if !alike(withRoom(whole), before) {
			t.Errorf("what is written to a copy stands in what was handed in: %+v; want %+v", withRoom(whole), before)
		}
		if !alike(second, want) {
			t.Errorf("what is written to a copy stands in another one: %+v; want %+v", second, want)
		}
		spoil(short)
		if !alike(second, want) {
			t.Errorf("what is written to what was handed in stands in its copy: %+v; want %+v", second, want)
		}
	}
}

// Sets that are one list, or pieces of one, are several in the copy.
func TestCopyHasNoTwoSetsInOneMemory(t *testing.T) {
	set := []api.Value{num(1), num(2), num(3)}
	f := of(in("a", set...), in("b", set...), in("c", set[1:]...), in("d", set[:1]...))
	for i := range f {
		c := filter.Copy(f)
		full := c[i].Set[:cap(c[i].Set)]
		for k := range full {
			full[k] = txt("spoilt")
		}
		for k := range c {
			if k != i && !alikeTest(c[k], f[k]) {
				t.Errorf("what is written to the Set %d of a copy stands in its Set %d: %+v", i, k, c)
			}
		}
	}
	// A Set that is lengthened stays out of the next one.
	c := filter.Copy(f)
	for i := range c {
		_ = append(c[i].Set, txt("more"))
	}
	if !alike(c, f) {
		t.Errorf("lengthened Sets of a copy: %+v; want %+v", c, f)
	}
}

func TestCopyHasNothingOfTheRoomBehind(t *testing.T) {
	for _, f := range append(several(), nil) {
		short, _ := roomy(f)
		c := filter.Copy(short)
		for _, p := range c[:cap(c)][len(c):] {
			if !alikeTest(p, api.Pred{}) {
				t.Errorf("%+v stands behind the copy of %+v", p, f)
			}
		}
		for _, p := range c {
			for _, v := range p.Set[:cap(p.Set)][len(p.Set):] {
				if !alikeValue(v, api.Value{}) {
					t.Errorf("%+v stands behind a Set of the copy of %+v", v, f)
				}
			}
		}
	}
}

// R2

func TestWhatIsHandedInStays(t *testing.T) {
	l := attrs(at("a", num(3)), at("b", txt("ab")))
	for _, f := range append(several(), nil) {
		stays(t, "Right", f, func(f []api.Pred) { filter.Right(f) })
		stays(t, "Takes", f, func(f []api.Pred) { filter.Takes(f, l) })
		stays(t, "Any", f, func(f []api.Pred) { filter.Any(rows(f, f), l) })
		stays(t, "Copy", f, func(f []api.Pred) { filter.Copy(f) })
		stays(t, "Reduce", f, func(f []api.Pred) { filter.Reduce(f, of(has("b")), f) })
		for _, g := range rows(nil, f, of(has("a"), in("b", num(1), nan))) {
			stays(t, "Same", f, func(f []api.Pred) {
				stays(t, "Same", g, func(g []api.Pred) { filter.Same(f, g) })
			})
			stays(t, "Covers", f, func(f []api.Pred) {
				stays(t, "Covers", g, func(g []api.Pred) { filter.Covers(f, g) })
			})
		}
	}
	room := attrs(at("a", num(3)), at("b", txt("ab")), at("c", num(1)))
	filter.Takes(of(has("a"), has("c")), room[:2])
	filter.Any(rows(of(has("c")), of(has("a"))), room[:2])
	if room[0] != at("a", num(3)) || room[1] != at("b", txt("ab")) || room[2] != at("c", num(1)) {
		t.Errorf("attributes that were handed in: %+v", room)
	}
}
