package subs_test

import (
	"math"
	"slices"
	"strconv"
	"strings"
	"testing"

	"precentor/api"
	"precentor/subs"
	"precentor/value"
)

// test is one of a name's, of a kind that takes V.
func test(name string, kind int, v api.Value) api.Pred {
	return api.Pred{Name: name, Test: kind, V: v}
}

func has(name string) api.Pred { return api.Pred{Name: name, Test: api.THas} }

func more(name string, n int64) api.Pred { return test(name, api.TMore, value.Int(n)) }

func in(name string, set ...api.Value) api.Pred {
	return api.Pred{Name: name, Test: api.TIn, Set: set}
}

// sub is a subscription with these tests.
func sub(client, broker, num int, tests ...api.Pred) api.Sub {
	return api.Sub{Client: client, Broker: broker, Num: num, Filter: tests}
}

// list is these subscriptions.
func list(s ...api.Sub) []api.Sub { return s }

// come is a change by which s comes.
func come(s api.Sub) api.Change { return api.Change{Sub: s} }

// gone is a change by which the client's num-th goes.
func gone(client, num int) api.Change {
	return api.Change{Gone: true, Sub: api.Sub{Client: client, Num: num}}
}

// changes is these, in order.
func changes(ch ...api.Change) []api.Change { return ch }

// valueText tells v to the bit.
func valueText(v api.Value) string {
	return strings.Join([]string{
		strconv.Itoa(v.Kind), strconv.FormatInt(v.N, 10), strconv.FormatUint(math.Float64bits(v.X), 16),
		strconv.Quote(v.S), strconv.FormatBool(v.B),
	}, ",")
}

// predText tells p to the bit, its Set's spare room too.
func predText(p api.Pred) string {
	s := strconv.Quote(p.Name) + " " + strconv.Itoa(p.Test) + " (" + valueText(p.V) + ") (" + valueText(p.W) + ") " +
		strconv.Itoa(len(p.Set)) + "{"
	for _, v := range p.Set[:cap(p.Set)] {
		s += "(" + valueText(v) + ")"
	}
	return s + "}"
}

// subText tells s to the bit, its spare room too.
func subText(s api.Sub) string {
	text := strconv.Itoa(s.Client) + " at " + strconv.Itoa(s.Broker) + ": " + strconv.Itoa(s.Num) + " " +
		strconv.Itoa(len(s.Filter)) + "["
	for _, p := range s.Filter[:cap(s.Filter)] {
		text += predText(p) + ";"
	}
	return text + "]"
}

// listText tells l to the bit, its spare room too.
func listText(l []api.Sub) string {
	var text strings.Builder
	text.WriteString(strconv.Itoa(len(l)) + ": ")
	for _, s := range l[:cap(l)] {
		text.WriteString(subText(s) + " | ")
	}
	return text.String()
}

// anew is l in memory of its own, without any spare room.
func anew(l []api.Sub) []api.Sub {
	out := make([]api.Sub, len(l))
	for i, s := range l {
		tests := make([]api.Pred, len(s.Filter))
		for k, p := range s.Filter {
			set := make([]api.Value, len(p.Set))
			copy(set, p.Set)
			p.Set = set
			tests[k] = p
		}
		s.Filter = tests
		out[i] = s
	}
	return out
}

// alike tells whether a and b are the same to the bit, spare room apart.
func alike(a, b []api.Sub) bool {
	return listText(anew(a)) == listText(anew(b))
}

func wantRight(t *testing.T, l []api.Sub, want bool) {
	t.Helper()
	if right := subs.Right(l); right != want {
		t.Errorf("Right(%+v): %t; want %t", l, right, want)
	}
}

func wantSame(t *testing.T, a, b []api.Sub, want bool) {
	t.Helper()
	if subs.Same(a, b) != want || subs.Same(b, a) != want {
		t.Errorf("Same(%+v, %+v): %t, turned round %t; want %t", a, b, subs.Same(a, b), subs.Same(b, a), want)
	}
}

// number is one of a Sub's, and what it may be.
type number struct {
	name      string
	low, high int
	of        func(s *api.Sub) *int
}

// numbers are all of them; the bounds are those of the chapter and of api.
func numbers() []number {
	return []number{
		{"Client", 1, 6, func(s *api.Sub) *int { return &s.Client }},
		{"Broker", 0, 7, func(s *api.Sub) *int { return &s.Broker }},
		{"Num", 1, 1 << 62, func(s *api.Sub) *int { return &s.Num }},
	}
}

// inside are numbers at n's bounds and between.
func (n number) inside() []int {
	return []int{n.low, n.low + 1, n.low + (n.high-n.low)/2, n.high - 1, n.high}
}

// outside are numbers beyond n's bounds: just beyond, as far as there are,
// and some that are within them by their low bits alone.
func (n number) outside() []int {
	l := []int{n.low - 1, n.low - 2, -n.high, math.MinInt, math.MinInt + n.low, n.high + 1, n.high + 2, math.MaxInt}
	if n.high < 1<<8 {
		l = append(l, n.low+1<<8, n.low+1<<16, n.high+1<<32, n.low+1<<62)
	}
	return l
}

// rightFilters are some that may be.
func rightFilters() [][]api.Pred {
	return [][]api.Pred{
		nil, {}, {has("a")}, {more("a", 3), has("b")}, {has("a"), has("a"), has("a")},
		{in("a", value.Int(1), value.Float(math.NaN()), value.Text(""), value.Bool(true))},
		{test("abcdef", api.TPrefix, value.Text(strings.Repeat("x", api.MaxText)))},
	}
}

// wrongFilters are some that are none, each for a reason of its own.
func wrongFilters() [][]api.Pred {
	return [][]api.Pred{
		{has("a"), has("b"), has("c"), has("d")},
		{has("a"), has("a"), has("a"), has("a")},
		{has("b"), has("a")},
		{has("a"), has("c"), has("b")},
		{{}}, {has("")}, {has("A")}, {has("abcdefg")},
		{{Name: "a", Test: 11}}, {test("a", api.TIs, api.Value{})}, {test("a", api.THas, value.Int(1))},
		{has("a"), in("b")}, {in("a"), has("b")},
		{test("a", api.TPrefix, value.Text(strings.Repeat("x", api.MaxText+1)))},
	}
}

// 11.1 Right

func TestTheLimitsAreThoseOfTheTests(t *testing.T) {
	limits := []int{api.MaxClients, api.MaxBrokers - 1, api.MaxNumber}
	for i, n := range numbers() {
		if n.high != limits[i] {
			t.Errorf("%s: at most %d; api says %d", n.name, n.high, limits[i])
		}
	}
	if api.MaxSubs != 3 || api.MaxPreds != 3 {
		t.Errorf("MaxSubs %d, MaxPreds %d; the tests ask for 3 and 3", api.MaxSubs, api.MaxPreds)
	}
}

func TestRightOfNone(t *testing.T) {
	wantRight(t, nil, true)
	wantRight(t, list(), true)
	wantRight(t, list(api.Sub{})[:0], true)
	wantRight(t, list(api.Sub{}), false)
}

// Each number alone is turned; the others stay as they may be.
func TestRightOfEachNumberAlone(t *testing.T) {
	for _, s := range []api.Sub{sub(1, 0, 1), sub(6, 7, 1<<62), sub(3, 4, 5, has("a"))} {
		for _, n := range numbers() {
			for _, to := range n.inside() {
				turned := s
				*n.of(&turned) = to
				wantRight(t, list(turned), true)
			}
			for _, to := range n.outside() {
				turned := s
				*n.of(&turned) = to
				wantRight(t, list(turned), false)
			}
		}
	}
}

// What may be is all from low to high, not the bounds alone.
func TestRightOfEachSmallNumber(t *testing.T) {
	for _, n := range numbers() {
		for to := -20; to <= 20; to++ {
			s := sub(2, 3, 4)
			*n.of(&s) = to
			wantRight(t, list(s), n.low <= to && to <= n.high)
		}
	}
}

// One that may not be stands at each place of a list that else rises.
func TestRightOfANumberAtEachPlace(t *testing.T) {
	wantRight(t, list(sub(1, 0, 1), sub(2, 7, 1), sub(2, 7, 1<<62), sub(6, 3, 1)), true)
	wantRight(t, list(sub(0, 0, 1), sub(2, 7, 1), sub(6, 3, 1)), false)
	wantRight(t, list(sub(-1, 0, 1), sub(0, 7, 1), sub(1, 3, 1)), false)
	wantRight(t, list(sub(5, 0, 1), sub(6, 7, 1), sub(7, 3, 1)), false)
	wantRight(t, list(sub(6, 7, 1), sub(7, 3, 1), sub(8, 3, 1)), false)
	wantRight(t, list(sub(2, 7, 0), sub(2, 7, 1), sub(2, 7, 2)), false)
	wantRight(t, list(sub(1, 0, 1), sub(2, 7, 0), sub(2, 7, 1)), false)
	wantRight(t, list(sub(2, 7, 1), sub(2, 7, 1<<62), sub(2, 7, 1<<62+1)), false)
	wantRight(t, list(sub(2, 7, 1), sub(2, 7, 1<<62+1), sub(6, 3, 1)), false)
	for i := range 3 {
		for _, broker := range []int{-1, 8, math.MinInt, math.MaxInt} {
			l := list(sub(1, 0, 1), sub(2, 7, 1), sub(6, 3, 1))
			l[i].Broker = broker
			wantRight(t, l, false)
		}
	}
	// Of one Client whose Broker is none, though it is one.
	wantRight(t, list(sub(2, 8, 1), sub(2, 8, 2), sub(2, 8, 3)), false)
	wantRight(t, list(sub(2, -1, 1), sub(2, -1, 2), sub(2, -1, 3)), false)
}

func TestRightOfFilters(t *testing.T) {
	base := func() []api.Sub { return list(sub(1, 0, 1), sub(2, 7, 1, has("a")), sub(2, 7, 2), sub(6, 3, 1)) }
	for i := range base() {
		for _, f := range rightFilters() {
			l := base()
			l[i].Filter = f
			wantRight(t, l, true)
			wantRight(t, l[i:i+1], true)
		}
		for _, f := range wrongFilters() {
			l := base()
			l[i].Filter = f
			wantRight(t, l, false)
			wantRight(t, l[i:i+1], false)
			l[i].Filter = nil
			wantRight(t, l, true)
		}
	}
	// By how many tests there are, not by the low bits of that alone.
	wantRight(t, list(sub(1, 0, 1, slices.Repeat([]api.Pred{has("a")}, 1<<8+1)...)), false)
	wantRight(t, list(sub(1, 0, 1, slices.Repeat([]api.Pred{has("a")}, 1<<16+1)...)), false)
}

func TestRightByClientsThatDoNotRise(t *testing.T) {
	for _, c := range []struct {
		clients []int
		want    bool
	}{
		{[]int{1, 2}, true}, {[]int{1, 6}, true}, {[]int{2, 1}, false}, {[]int{6, 1}, false}, {[]int{1, 1}, false},
		{[]int{1, 2, 3}, true}, {[]int{1, 3, 2}, false}, {[]int{2, 1, 3}, false}, {[]int{1, 2, 1}, false},
		{[]int{2, 3, 1}, false}, {[]int{3, 2, 1}, false}, {[]int{1, 2, 2}, false}, {[]int{1, 1, 2}, false},
		{[]int{1, 2, 3, 4, 5, 6}, true}, {[]int{1, 2, 3, 4, 6, 5}, false}, {[]int{2, 3, 4, 5, 6, 1}, false},
		{[]int{1, 2, 3, 4, 5, 6, 6}, false}, {[]int{1, 2, 3, 4, 5, 6, 1}, false},
	} {
		var level, falling, climbing []api.Sub
		for i, client := range c.clients {
			level = append(level, sub(client, 4, 9))
			// A lesser Client is not made up for by a greater Num, nor a greater
			// one undone by a lesser.
			falling = append(falling, sub(client, 7-i, 1000-i))
			climbing = append(climbing, sub(client, 4, 1000+i))
		}
		wantRight(t, level, c.want)
		if c.want {
			wantRight(t, falling, true)
			wantRight(t, climbing, true)
		}
	}
	wantRight(t, list(sub(2, 4, 1), sub(1, 4, 2)), false)
	wantRight(t, list(sub(2, 0, 2), sub(1, 4, 1)), false)
	wantRight(t, list(sub(1, 4, 5), sub(2, 4, 4), sub(1, 4, 6)), false)
}

func TestRightByNumsThatDoNotRise(t *testing.T) {
	for _, c := range []struct {
		nums []int
		want bool
	}{
		{[]int{1, 2}, true}, {[]int{1, 1 << 62}, true}, {[]int{1<<62 - 1, 1 << 62}, true}, {[]int{7, 900}, true},
		{[]int{2, 1}, false}, {[]int{1 << 62, 1}, false}, {[]int{1 << 62, 1<<62 - 1}, false},
		{[]int{1, 1}, false}, {[]int{1 << 62, 1 << 62}, false},
		{[]int{1, 2, 3}, true}, {[]int{1, 1 << 32, 1 << 62}, true},
		{[]int{1, 3, 2}, false}, {[]int{2, 1, 3}, false}, {[]int{2, 3, 1}, false}, {[]int{3, 2, 1}, false},
		{[]int{1, 1, 2}, false}, {[]int{1, 2, 2}, false}, {[]int{1, 2, 1}, false},
	} {
		for client := 1; client <= api.MaxClients; client++ {
			var l, filtered []api.Sub
			for i, n := range c.nums {
				l = append(l, sub(client, 5, n))
				filtered = append(filtered, sub(client, 5, n, more("a", int64(i))))
			}
			wantRight(t, l, c.want)
			// Two of one Client and Num are no better by their Filters.
			wantRight(t, filtered, c.want)
			if client > 1 {
				wantRight(t, append(list(sub(client-1, 5, 4)), l...), c.want)
			}
			if client < api.MaxClients {
				wantRight(t, append(l, sub(client+1, 5, 4)), c.want)
			}
		}
	}
	// The Nums of one Client say nothing about another one's.
	wantRight(t, list(sub(1, 0, 8), sub(1, 0, 9), sub(2, 0, 1), sub(2, 0, 2), sub(3, 0, 1)), true)
}

func TestRightByBrokersOfAClient(t *testing.T) {
	for a := range api.MaxBrokers {
		for b := range api.MaxBrokers {
			one := a == b
			wantRight(t, list(sub(3, a, 1), sub(3, b, 2)), one)
			wantRight(t, list(sub(3, a, 1), sub(3, a, 2), sub(3, b, 3)), one)
			wantRight(t, list(sub(3, a, 1), sub(3, b, 2), sub(3, b, 3)), one)
			wantRight(t, list(sub(3, a, 1), sub(3, b, 2), sub(3, a, 3)), one)
			wantRight(t, list(sub(1, a, 1), sub(3, a, 1), sub(3, b, 2), sub(5, b, 1)), one)
			// Others may be at one Broker, or each at its own.
			wantRight(t, list(sub(2, a, 1), sub(3, b, 1)), true)
			wantRight(t, list(sub(2, a, 1), sub(2, a, 2), sub(3, b, 1), sub(3, b, 2), sub(4, a, 1)), true)
		}
	}
}

// many has n of that client, at that Broker.
func many(client, broker, n int) []api.Sub {
	var l []api.Sub
	for i := range n {
		l = append(l, sub(client, broker, 10+i))
	}
	return l
}

func TestRightByHowMany(t *testing.T) {
	for client := 1; client <= api.MaxClients; client++ {
		for n := range 4 * api.MaxSubs {
			l := many(client, 2, n)
			wantRight(t, l, n <= api.MaxSubs)
			var around []api.Sub
			for other := 1; other <= api.MaxClients; other++ {
				if other == client {
					around = append(around, l...)
				} else {
					around = append(around, many(other, 2, api.MaxSubs)...)
				}
			}
			// Other Clients' count by themselves, as many as there may be.
			wantRight(t, around, n <= api.MaxSubs)
		}
	}
	wantRight(t, slices.Concat(many(1, 0, 2), many(2, 0, 3), many(3, 0, 2)), true)
	wantRight(t, slices.Concat(many(1, 0, 1), many(2, 0, 2), many(3, 0, 1), many(4, 0, 3), many(5, 0, 1)), true)
	wantRight(t, slices.Concat(many(1, 0, 2), many(2, 0, 4), many(3, 0, 2)), false)
}

// One more of a Client, with others between, does not rise either.
func TestRightOfOneMoreWithOthersBetween(t *testing.T) {
	more := list(sub(1, 0, 20))
	wantRight(t, slices.Concat(many(1, 0, 3), many(2, 0, 1), more), false)
	wantRight(t, slices.Concat(many(1, 0, 3), many(2, 0, 3), more), false)
	wantRight(t, slices.Concat(many(1, 0, 2), many(2, 0, 1), more), false)
	wantRight(t, slices.Concat(many(1, 0, 1), many(2, 0, 1), more, many(3, 0, 1), list(sub(1, 0, 21))), false)
	wantRight(t, slices.Concat(many(1, 0, 3), more), false)
}

// asRead is 11.1 word by word; the Filters are right, and the numbers within.
func asRead(l []api.Sub) bool {
	count := make(map[int]int)
	broker := make(map[int]int)
	for i, s := range l {
		for _, ahead := range l[:i] {
			if ahead.Client > s.Client || ahead.Client == s.Client && ahead.Num >= s.Num {
				return false
			}
		}
		if at, ok := broker[s.Client]; ok && at != s.Broker {
			return false
		}
		broker[s.Client] = s.Broker
		count[s.Client]++
	}
	for _, n := range count {
		if n > 3 {
			return false
		}
	}
	return true
}

// each hands over every list of up to longest out of these.
func each(all []api.Sub, longest int, do func(l []api.Sub)) {
	var grow func(l []api.Sub)
	grow = func(l []api.Sub) {
		do(l)
		if len(l) == longest {
			return
		}
		for _, s := range all {
			grow(append(l[:len(l):len(l)], s))
		}
	}
	grow(nil)
}

func TestRightOfManyIsAsRead(t *testing.T) {
	var brokers, nums []api.Sub
	for client := 1; client <= 2; client++ {
		for num := 1; num <= 3; num++ {
			brokers = append(brokers, sub(client, 0, num), sub(client, 7, num, has("a")))
		}
		for num := 1; num <= 4; num++ {
			nums = append(nums, sub(client, 3, num))
		}
	}
	right := 0
	ask := func(l []api.Sub) {
		want := asRead(l)
		if want {
			right++
		}
		wantRight(t, l, want)
	}
	each(brokers, 4, ask)
	each(nums, 5, ask)
	if right < 200 {
		t.Errorf("only %d lists are right", right)
	}
}

// 11.1 Same

func TestSameOfNone(t *testing.T) {
	wantSame(t, nil, nil, true)
	wantSame(t, nil, list(), true)
	wantSame(t, list(), list(sub(1, 0, 1))[:0], true)
	wantSame(t, nil, list(sub(1, 0, 1)), false)
	wantSame(t, list(), list(api.Sub{}), false)
}

// various has right ones and ones that are none.
func various() []api.Sub {
	l := list(
		sub(1, 0, 1), sub(2, 0, 1), sub(1, 7, 1), sub(1, 0, 2), sub(1, 0, 1<<62), sub(6, 7, 5, has("a")),
		api.Sub{}, sub(-1, 0, 1), sub(1, -1, 1), sub(1, 0, -1), sub(math.MaxInt, math.MinInt, math.MaxInt),
		sub(1, 1, 2), sub(2, 1, 1), sub(1, 2, 1),
	)
	for i, f := range slices.Concat(rightFilters()[2:], wrongFilters()) {
		l = append(l, sub(1, 0, 1, f...), sub(0, i, i, f...))
	}
	return l
}

func TestSameOfEachTwo(t *testing.T) {
	all := various()
	for i, a := range all {
		for k, b := range all {
			wantSame(t, list(a), list(b), i == k)
			wantSame(t, list(a, b), list(b, a), i == k)
			wantSame(t, list(a, b), list(a, b), true)
			wantSame(t, list(a, b), list(a), false)
			wantSame(t, list(a, b), list(b), false)
			wantSame(t, list(a, b, a), list(a, a, b), i == k)
		}
		wantSame(t, list(a), anew(list(a)), true)
		wantSame(t, list(a), nil, false)
		wantSame(t, list(a), list(a, a), false)
	}
	wantSame(t, all, anew(all), true)
	wantSame(t, all, all[1:], false)
	wantSame(t, all, all[:len(all)-1], false)
}

// Each part alone is turned, at each place.
func TestSameOfEachPartTurned(t *testing.T) {
	base := list(sub(1, 0, 1, more("a", 3), in("b", value.Int(1), value.Text("x"))), sub(1, 0, 2, has("a"), has("b")), api.Sub{})
	turns := []func(s *api.Sub){
		func(s *api.Sub) { s.Client++ },
		func(s *api.Sub) { s.Client = -1 },
		func(s *api.Sub) { s.Client += 1 << 32 },
		func(s *api.Sub) { s.Broker++ },
		func(s *api.Sub) { s.Broker = -1 },
		func(s *api.Sub) { s.Broker += 1 << 32 },
		func(s *api.Sub) { s.Num++ },
		func(s *api.Sub) { s.Num = -1 },
		func(s *api.Sub) { s.Num += 1 << 32 },
		func(s *api.Sub) { s.Filter = append(s.Filter, has("c")) },
		func(s *api.Sub) { s.Client, s.Num = s.Num+3, s.Client },
	}
	for i := range base {
		for _, turn := range turns {
			l := anew(base)
			wantSame(t, base, l, true)
			turn(&l[i])
			wantSame(t, base, l, false)
		}
	}
	// Of the two that have tests: each part of a test, the last test, their order.
	inner := []func(f []api.Pred) []api.Pred{
		func(f []api.Pred) []api.Pred { return f[:1] },
		func(f []api.Pred) []api.Pred { return nil },
		func(f []api.Pred) []api.Pred { f[0], f[1] = f[1], f[0]; return f },
		func(f []api.Pred) []api.Pred { f[1].Name += "x"; return f },
		func(f []api.Pred) []api.Pred { f[0].Test = api.TLess; return f },
		func(f []api.Pred) []api.Pred { f[0].V.N++; return f },
		func(f []api.Pred) []api.Pred { f[1].W.B = true; return f },
		func(f []api.Pred) []api.Pred { f[1].Set = append(f[1].Set, value.Int(2)); return f },
	}
	for i := range base[:2] {
		for _, turn := range inner {
			l := anew(base)
			l[i].Filter = turn(l[i].Filter)
			wantSame(t, base, l, false)
		}
	}
}

// Filters are held against each other by filter.Same: one nought, one NaN.
func TestSameByFiltersThatAreAlike(t *testing.T) {
	is := func(x float64) []api.Sub { return list(sub(1, 0, 1, test("a", api.TIs, value.Float(x)))) }
	wantSame(t, is(0), is(math.Copysign(0, -1)), true)
	wantSame(t, is(math.NaN()), is(math.Float64frombits(0xfff0000000000001)), true)
	wantSame(t, is(math.Inf(1)), is(math.Inf(-1)), false)
	wantSame(t, is(0), is(math.NaN()), false)
	wantSame(t, is(2), list(sub(1, 0, 1, test("a", api.TIs, value.Int(2)))), false)
	wantSame(t, list(sub(1, 0, 1, in("a"))), list(sub(1, 0, 1, in("a", []api.Value{}...))), true)
	wantSame(t, list(api.Sub{Filter: nil}), list(api.Sub{Filter: []api.Pred{}}), true)
	// Ones that take the same, but are others.
	wantSame(t, list(sub(1, 0, 1, has("a"), has("a"))), list(sub(1, 0, 1, has("a"))), false)
	wantSame(t, list(sub(1, 0, 1, in("a", value.Int(1)))), list(sub(1, 0, 1, test("a", api.TIs, value.Int(1)))), false)
}
