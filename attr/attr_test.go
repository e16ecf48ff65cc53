package attr_test

import (
	"math"
	"strings"
	"testing"

	"precentor/api"
	"precentor/attr"
	"precentor/value"
)

var (
	nan      = math.NaN()
	negative = math.Copysign(0, -1)
	tooLong  = value.Text(strings.Repeat("x", api.MaxText+1))
)

// named is an attribute of that name.
func named(name string, v api.Value) api.Attr {
	return api.Attr{Name: name, V: v}
}

// list has an attribute of each name, with the numbers from 1 on.
func list(names ...string) []api.Attr {
	var l []api.Attr
	for i, name := range names {
		l = append(l, named(name, value.Int(int64(i+1))))
	}
	return l
}

// letters is a rising list of the n first letters.
func letters(n int) []api.Attr {
	var l []api.Attr
	for i := range n {
		l = append(l, named(string(rune('a'+i)), value.Int(int64(i))))
	}
	return l
}

// rightValues are some of each kind, with their edges.
func rightValues() []api.Value {
	return []api.Value{
		value.Int(0), value.Int(math.MinInt64), value.Int(math.MaxInt64),
		value.Float(0), value.Float(negative), value.Float(nan),
		value.Float(math.Inf(1)), value.Float(math.Inf(-1)), value.Float(2.5),
		value.Text(""), value.Text(strings.Repeat("\xff", api.MaxText)),
		value.Bool(false), value.Bool(true),
		{Kind: api.KInt, N: 1, X: negative},
	}
}

// wrongValues are some that are not right, each for a reason of its own.
func wrongValues() []api.Value {
	return []api.Value{
		{}, {Kind: 5}, {Kind: -1}, tooLong,
		{Kind: api.KInt, X: 1}, {Kind: api.KInt, X: nan},
		{Kind: api.KFloat, N: 1}, {Kind: api.KText, B: true}, {Kind: api.KBool, S: "a"},
	}
}

// wrongLists are some that are not right, each for a reason of its own.
func wrongLists() [][]api.Attr {
	lists := [][]api.Attr{
		list("b", "a"), list("a", "a"), list("", ""), list("A", "\x00", "too long a name"),
		letters(api.MaxAttrs + 1), letters(20),
	}
	for _, v := range wrongValues() {
		lists = append(lists, []api.Attr{named("a", v)})
	}
	return lists
}

// alike tells whether a and b are the same to the bit.
func alike(a, b api.Attr) bool {
	return a.Name == b.Name && alikeValue(a.V, b.V)
}

func alikeValue(a, b api.Value) bool {
	return a.Kind == b.Kind && a.N == b.N && a.S == b.S && a.B == b.B &&
		math.Float64bits(a.X) == math.Float64bits(b.X)
}

func alikeLists(a, b []api.Attr) bool {
	if len(a) != len(b) {
		return false
	}
	for i := range a {
		if !alike(a[i], b[i]) {
			return false
		}
	}
	return true
}

// roomy is l with spare room behind it, in which something stands; whole is
// that room with l ahead of it.
func roomy(l []api.Attr) (short, whole []api.Attr) {
	whole = append(whole, l...)
	whole = append(whole, named("spare", value.Int(7)), named("room", value.Float(nan)))
	return whole[:len(l)], whole
}

// stays asks that f changes nothing of l, nor of the room behind it.
func stays(t *testing.T, call string, l []api.Attr, f func(l []api.Attr)) {
	t.Helper()
	short, whole := roomy(l)
	_, before := roomy(l)
	f(short)
	if !alikeLists(whole, before) {
		t.Errorf("%s: left %+v of %+v", call, whole, before)
	}
}

func wantWord(t *testing.T, s string, want bool) {
	t.Helper()
	if word := attr.Word(s); word != want {
		t.Errorf("Word(%q): %t; want %t", s, word, want)
	}
}

func wantRight(t *testing.T, l []api.Attr, want bool) {
	t.Helper()
	if right := attr.Right(l); right != want {
		t.Errorf("Right(%+v): %t; want %t", l, right, want)
	}
}

func wantGet(t *testing.T, l []api.Attr, name string, want api.Value, there bool) {
	t.Helper()
	v, ok := attr.Get(l, name)
	if !alikeValue(v, want) || ok != there {
		t.Errorf("Get(%+v, %q): %+v, %t; want %+v, %t", l, name, v, ok, want, there)
	}
}

func wantSame(t *testing.T, a, b []api.Attr, want bool) {
	t.Helper()
	if attr.Same(a, b) != want || attr.Same(b, a) != want {
		t.Errorf("Same(%+v, %+v): %t, turned round %t; want %t", a, b, attr.Same(a, b), attr.Same(b, a), want)
	}
}

// 5.1 Word

func TestWordByHowManyBytes(t *testing.T) {
	for n := range 3 * api.MaxWord {
		wantWord(t, strings.Repeat("q", n), n >= 1 && n <= api.MaxWord)
	}
	wantWord(t, strings.Repeat("q", 1<<8+1), false)
	wantWord(t, strings.Repeat("q", 1<<16+1), false)
}

func TestWordOfEachByteAtEachPlace(t *testing.T) {
	for n := 1; n <= api.MaxWord; n++ {
		for place := range n {
			for b := range 256 {
				s := []byte(strings.Repeat("m", n))
				s[place] = byte(b)
				wantWord(t, string(s), b >= 'a' && b <= 'z')
			}
		}
	}
}

func TestWordOfLettersOfSeveralBytes(t *testing.T) {
	wantWord(t, "\u00e9", false)
	wantWord(t, "a\u00e9a", false)
	// Those whose number has the lowest eight bits of an a.
	wantWord(t, "\u0161", false)
	wantWord(t, "\U00010061", false)
}

// 5.1 Right

func TestRightByHowMany(t *testing.T) {
	wantRight(t, nil, true)
	wantRight(t, []api.Attr{}, true)
	for n := range 20 {
		wantRight(t, letters(n), n <= api.MaxAttrs)
	}
}

func TestRightAsksForWords(t *testing.T) {
	long := strings.Repeat("c", api.MaxWord)
	wantRight(t, list(long), true)
	for _, name := range []string{"", "B", "b1", "b ", "`", "b{", "b\x00", "\xff", long + "c"} {
		wantRight(t, list(name), false)
	}
	// What rises, with one that is no word at the beginning, within, at the end.
	wantRight(t, list("", "a", "b"), false)
	wantRight(t, list("A", "a", "b"), false)
	wantRight(t, list("a", "a1", "b"), false)
	wantRight(t, list("a", "b", "c{"), false)
	wantRight(t, list("a", "b", long+"c"), false)
}

func TestRightAsksForRisingNames(t *testing.T) {
	wantRight(t, list("a", "z"), true)
	wantRight(t, list("a", "aa", "ab", "b", "ba"), true)
	wantRight(t, list("aaaaaa", "b"), true)
	for _, names := range [][]string{
		{"b", "a"},
		{"b", "aaaaaa"},
		{"ab", "a"},
		{"b", "c", "a"},
		{"a", "c", "b"},
		{"b", "a", "c"},
		{"a", "b", "c", "e", "d"},
		{"b", "a", "c", "d", "e"},
	} {
		wantRight(t, list(names...), false)
	}
}

func TestRightOfOneNameTwice(t *testing.T) {
	for _, names := range [][]string{
		{"a", "a"},
		{"a", "a", "b"},
		{"a", "b", "b"},
		{"a", "b", "a"},
		{"a", "b", "c", "d", "d"},
	} {
		wantRight(t, list(names...), false)
	}
	// Also with the same value.
	wantRight(t, []api.Attr{named("a", value.Int(1)), named("a", value.Int(1))}, false)
}

func TestRightAsksForRightValues(t *testing.T) {
	for _, v := range rightValues() {
		wantRight(t, []api.Attr{named("a", v)}, true)
	}
	for _, v := range wrongValues() {
		for place := range api.MaxAttrs {
			l := letters(api.MaxAttrs)
			l[place].V = v
			wantRight(t, l, false)
		}
	}
}

// 5.1 Get

func TestGetOfEachName(t *testing.T) {
	l := list("a", "b", "c", "d", "e")
	for i, a := range l {
		wantGet(t, l, a.Name, value.Int(int64(i+1)), true)
	}
	wantGet(t, []api.Attr{named("a", value.Int(2)), named("b", value.Int(1))}, "b", value.Int(1), true)
}

func TestGetTellsTheValueAsItIs(t *testing.T) {
	for _, v := range append(rightValues(), wrongValues()...) {
		wantGet(t, []api.Attr{named("a", value.Int(1)), named("b", v)}, "b", v, true)
	}
}

func TestGetOfSeveralOfOneName(t *testing.T) {
	wantGet(t, list("a", "b", "b", "b", "c"), "b", value.Int(2), true)
	wantGet(t, list("b", "a", "b"), "b", value.Int(1), true)
	wantGet(t, list("a", "a"), "a", value.Int(1), true)
	// The first one, whatever its value, even a zero one.
	wantGet(t, []api.Attr{named("a", api.Value{}), named("a", value.Int(1))}, "a", api.Value{}, true)
	wantGet(t, []api.Attr{named("a", tooLong), named("a", value.Int(1))}, "a", tooLong, true)
}

func TestGetOfANameThatIsNotThere(t *testing.T) {
	for _, name := range []string{"", "A", "aa", "ab", "b\x00", "bb", "c", "z", "bcdefgh"} {
		wantGet(t, list("a", "b"), name, api.Value{}, false)
	}
	wantGet(t, list("abc"), "ab", api.Value{}, false)
	wantGet(t, list("ab"), "abc", api.Value{}, false)
}

func TestGetOfNone(t *testing.T) {
	for _, name := range []string{"", "a", "abcdef"} {
		wantGet(t, nil, name, api.Value{}, false)
		wantGet(t, []api.Attr{}, name, api.Value{}, false)
		// What stands in the room behind is not there.
		wantGet(t, list("a", "abcdef", "")[:0], name, api.Value{}, false)
	}
}

func TestGetOfListsThatAreNotRight(t *testing.T) {
	fallen := list("e", "d", "c", "b", "a")
	for i, a := range fallen {
		wantGet(t, fallen, a.Name, value.Int(int64(i+1)), true)
	}
	odd := list("A", "", "b1", "\xff\x00", "far too long a name")
	for i, a := range odd {
		wantGet(t, odd, a.Name, value.Int(int64(i+1)), true)
	}
	many := letters(20)
	wantGet(t, many, "t", value.Int(19), true)
	wantGet(t, many, "u", api.Value{}, false)
}

// 5.1 Same

func TestSameOfListsThatAreAlike(t *testing.T) {
	lists := append(wrongLists(), nil, list("a"), list("a", "b", "c"), letters(api.MaxAttrs))
	for _, v := range append(rightValues(), wrongValues()...) {
		lists = append(lists, []api.Attr{named("a", value.Int(1)), named("b", v)})
	}
	for _, l := range lists {
		wantSame(t, l, l, true)
		var other []api.Attr
		for _, a := range l {
			a.Name, a.V.S = strings.Clone(a.Name), strings.Clone(a.V.S)
			other = append(other, a)
		}
		wantSame(t, l, other, true)
	}
}

func TestSameOfNilAndAnEmptyList(t *testing.T) {
	wantSame(t, nil, nil, true)
	wantSame(t, nil, []api.Attr{}, true)
	wantSame(t, nil, list("a")[:0], true)
	wantSame(t, list("a")[:0], list("b")[:0], true)
}

func TestSameOfOtherLengths(t *testing.T) {
	for n := range 10 {
		for m := range 10 {
			wantSame(t, letters(n), letters(m), n == m)
		}
	}
	wantSame(t, nil, make([]api.Attr, 1), false)
	wantSame(t, list("a"), append(list("a"), api.Attr{}), false)
}

func TestSameOfAnotherName(t *testing.T) {
	for place := range api.MaxAttrs {
		for _, name := range []string{"", "x", "A", "aa", "\x00"} {
			other := letters(api.MaxAttrs)
			other[place].Name = name
			wantSame(t, letters(api.MaxAttrs), other, false)
		}
	}
	wantSame(t, list("ab"), list("a"), false)
	wantSame(t, list(""), list("a"), false)
}

func TestSameOfAnotherValue(t *testing.T) {
	turned := func(v api.Value) []api.Value {
		all := []api.Value{v, v, v, v, v}
		all[0].Kind++
		all[1].N++
		all[2].X = 1.25
		all[3].S += "\x00"
		all[4].B = !v.B
		return all
	}
	for place := range api.MaxAttrs {
		l := letters(api.MaxAttrs)
		for _, v := range turned(l[place].V) {
			other := letters(api.MaxAttrs)
			other[place].V = v
			wantSame(t, l, other, false)
		}
	}
}

func TestSameOfAnotherOrder(t *testing.T) {
	a, b := named("a", value.Int(1)), named("b", value.Int(2))
	wantSame(t, []api.Attr{a, b}, []api.Attr{b, a}, false)
	wantSame(t, []api.Attr{a, a, b}, []api.Attr{a, b, b}, false)
	// The same Names with the values turned round, and the other way.
	wantSame(t, []api.Attr{a, b}, []api.Attr{named("a", b.V), named("b", a.V)}, false)
	wantSame(t, list("a", "b"), list("b", "a"), false)
}

func TestSameOfValuesThatAreTheSameThoughNotEqual(t *testing.T) {
	nans := []float64{nan, -nan, math.Float64frombits(0x7ff0000000000001), math.Float64frombits(0xffffffffffffffff)}
	for _, x := range nans {
		for _, y := range nans {
			a, b := letters(3), letters(3)
			a[1].V, b[1].V = value.Float(x), value.Float(y)
			wantSame(t, a, b, true)
			b[1].V = value.Float(0)
			wantSame(t, a, b, false)
		}
	}
	wantSame(t, []api.Attr{named("a", value.Float(negative))}, []api.Attr{named("a", value.Float(0))}, true)
}

func TestSameOfValuesThatAreEqualThoughNotTheSame(t *testing.T) {
	for _, c := range [][2]api.Value{
		{value.Int(2), value.Float(2)},
		{value.Int(0), value.Float(negative)},
		{value.Int(2), {Kind: api.KInt, N: 2, S: "a"}},
		{value.Text("a"), {Kind: api.KText, S: "a", N: 1}},
	} {
		if !value.Is(c[0], c[1]) {
			t.Errorf("Is(%+v, %+v): false", c[0], c[1])
		}
		wantSame(t, []api.Attr{named("a", c[0])}, []api.Attr{named("a", c[1])}, false)
	}
}

func TestSameOfListsThatAreNotRight(t *testing.T) {
	for i, a := range wrongLists() {
		for k, b := range wrongLists() {
			wantSame(t, a, b, i == k)
		}
		wantSame(t, a, nil, false)
		wantSame(t, a, list("a"), false)
	}
}

// 5.1 Copy

func TestCopyOfNone(t *testing.T) {
	for _, l := range [][]api.Attr{nil, {}, list("a", "b")[:0]} {
		if c := attr.Copy(l); len(c) != 0 {
			t.Errorf("Copy(%+v): %+v", l, c)
		}
	}
}

func TestCopyOfSome(t *testing.T) {
	lists := append(wrongLists(), list("a"), list("b", "a", "b"), letters(api.MaxAttrs), letters(26))
	for _, v := range append(rightValues(), value.Float(math.Float64frombits(0xffffffffffffffff))) {
		lists = append(lists, []api.Attr{named("a", value.Int(1)), named("b", v)})
	}
	for _, l := range lists {
		if c := attr.Copy(l); !alikeLists(c, l) {
			t.Errorf("Copy(%+v): %+v", l, c)
		}
	}
}

// spoil writes to each place of l, and of the room behind it.
func spoil(l []api.Attr) {
	whole := l[:cap(l)]
	for i := range whole {
		whole[i] = named("spoilt", value.Bool(true))
	}
}

func TestCopyIsNewMemory(t *testing.T) {
	for n := range 10 {
		short, whole := roomy(letters(n))
		_, before := roomy(letters(n))
		first, second := attr.Copy(short), attr.Copy(short)
		spoil(first)
		if !alikeLists(whole, before) {
			t.Errorf("%d: what is written to a copy stands in what was handed in: %+v", n, whole)
		}
		if !alikeLists(second, letters(n)) {
			t.Errorf("%d: what is written to a copy stands in another one: %+v", n, second)
		}
		spoil(short)
		if !alikeLists(second, letters(n)) {
			t.Errorf("%d: what is written to what was handed in stands in its copy: %+v", n, second)
		}
	}
}

func TestCopyHasNothingOfTheRoomBehind(t *testing.T) {
	for n := range 10 {
		short, _ := roomy(letters(n))
		c := attr.Copy(short)
		for _, a := range c[:cap(c)][len(c):] {
			if !alike(a, api.Attr{}) {
				t.Errorf("%d: %+v stands behind the copy", n, a)
			}
		}
	}
}

// R2

func TestWhatIsHandedInStays(t *testing.T) {
	lists := append(wrongLists(), nil, list("a"), list("b", "a", "b"), letters(api.MaxAttrs))
	for _, l := range lists {
		stays(t, "Right", l, func(l []api.Attr) { attr.Right(l) })
		stays(t, "Get", l, func(l []api.Attr) { attr.Get(l, "b"); attr.Get(l, "spare") })
		stays(t, "Copy", l, func(l []api.Attr) { attr.Copy(l) })
		stays(t, "Same", l, func(a []api.Attr) {
			stays(t, "Same", l, func(b []api.Attr) { attr.Same(a, b) })
		})
	}
}

// R4

func TestTheSameAnswersAgain(t *testing.T) {
	for range 3 {
		wantWord(t, "abc", true)
		wantWord(t, "ABC", false)
		wantRight(t, list("a", "b"), true)
		wantRight(t, list("b", "a"), false)
		wantGet(t, list("b", "a", "b"), "b", value.Int(1), true)
		wantGet(t, list("b", "a", "b"), "c", api.Value{}, false)
		wantSame(t, list("a", "b"), list("a", "b"), true)
		wantSame(t, list("a", "b"), list("a", "c"), false)
	}
}
