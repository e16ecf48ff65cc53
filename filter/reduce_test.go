package filter_test

import (
	"slices"
	"testing"

	"precentor/api"
	"precentor/filter"
)

// wantReduce asks for just these, in that order.
func wantReduce(t *testing.T, l [][]api.Pred, want ...[]api.Pred) {
	t.Helper()
	if row := filter.Reduce(l...); !alikeRows(row, want) {
		t.Errorf("Reduce(%+v): %+v; want %+v", l, row, want)
	}
}

// 7.3

func TestReduceOfTheExample(t *testing.T) {
	wantReduce(t, rows(of(more("a", num(5))), of(more("a", num(3))), of(has("b")), of(more("a", num(4)))),
		of(more("a", num(3))), of(has("b")))
}

func TestReduceOfNone(t *testing.T) {
	if row := filter.Reduce(); len(row) != 0 {
		t.Errorf("Reduce(): %+v", row)
	}
	wantReduce(t, nil)
	wantReduce(t, rows())
	wantReduce(t, rows(of(has("a")), nil)[:0])
}

func TestReduceOfOne(t *testing.T) {
	wantReduce(t, rows(nil), nil)
	wantReduce(t, rows(of()), nil)
	for _, f := range append(several(), manyFilters()...) {
		wantReduce(t, rows(f), f)
	}
}

func TestReduceOfWhatAFormerOneCovers(t *testing.T) {
	three, five, has := of(more("a", num(3))), of(more("a", num(5))), of(has("b"))
	wantReduce(t, rows(three, five), three)
	wantReduce(t, rows(three, five, five), three)
	wantReduce(t, rows(three, has, five), three, has)
	wantReduce(t, rows(has, three, five), has, three)
	wantReduce(t, rows(three, append(five, has...), has), three, has)
	wantReduce(t, rows(nil, three, has, five), nil)
	wantReduce(t, rows(nil, nil), nil)
}

func TestReduceOfWhatCoversSeveralFormerOnes(t *testing.T) {
	three, four, five, has := of(more("a", num(3))), of(is("a", num(4))), of(is("a", num(5))), of(has("b"))
	wantReduce(t, rows(four, five, three), three)
	wantReduce(t, rows(four, has, five, three), has, three)
	wantReduce(t, rows(has, four, five, three), has, three)
	wantReduce(t, rows(four, five, has, three), has, three)
	wantReduce(t, rows(four, five, has, three, four, five), has, three)
	wantReduce(t, rows(four, five, has, nil), nil)
	wantReduce(t, rows(four, five, has, nil, three, has), nil)
}

// The first of them stays, as it is and where it is.
func TestReduceOfTwoThatCoverOneAnother(t *testing.T) {
	whole, part, set, has := of(is("a", num(2))), of(is("a", fl(2))), of(in("a", fl(2), num(2))), of(has("b"))
	wantReduce(t, rows(whole, part, set), whole)
	wantReduce(t, rows(part, whole, set), part)
	wantReduce(t, rows(set, whole, part), set)
	wantReduce(t, rows(part, has, whole), part, has)
	wantReduce(t, rows(has, set, part), has, set)
	// Tests in another order, and one of them twice.
	one, other := of(more("a", num(1)), less("a", num(9))), of(less("a", num(9)), more("a", num(1)))
	wantReduce(t, rows(one, other), one)
	wantReduce(t, rows(other, one), other)
	wantReduce(t, rows(append(has, has...), has), append(has, has...))
	wantReduce(t, rows(of(not("a", nan)), of(not("a", nan))), of(not("a", nan)))
	// The noughts are told as they were.
	wantReduce(t, rows(of(is("a", fl(negative))), of(is("a", fl(0)))), of(is("a", fl(negative))))
	wantReduce(t, rows(of(is("a", fl(0))), of(is("a", fl(negative)))), of(is("a", fl(0))))
}

func TestReduceKeepsTheOrder(t *testing.T) {
	one, two, three := of(is("a", num(1))), of(is("a", num(2))), of(is("a", num(3)))
	wantReduce(t, rows(one, two, three), one, two, three)
	wantReduce(t, rows(three, one, two), three, one, two)
	wantReduce(t, rows(two, three, one, two, three), two, three, one)
	// One that covers a former one does not take its place.
	wide := of(less("a", num(2)))
	wantReduce(t, rows(one, two, three, wide), two, three, wide)
	wantReduce(t, rows(two, one, three, wide), two, three, wide)
	wantReduce(t, rows(two, one, wide, three), two, wide, three)
	wantReduce(t, rows(one, wide, one, two, one), wide, two)
}

// One is held against those that stand in the row then, not against those that
// left it or come later.
func TestReduceOfOnesThatCameAndLeft(t *testing.T) {
	one, two, four := of(more("a", num(1))), of(more("a", num(2))), of(more("a", num(4)))
	wantReduce(t, rows(four, two, one, four, two), one)
	wantReduce(t, rows(four, of(has("b")), two, of(has("c")), one), of(has("b")), of(has("c")), one)
	all := of(has("a"))
	wantReduce(t, rows(two, all, one, four, nil, all), nil)
}

func TestReduceOfVoidOnes(t *testing.T) {
	has := of(has("b"))
	for _, p := range voids("a") {
		void := of(p)
		wantReduce(t, rows(void), void)
		wantReduce(t, rows(void, void), void)
		wantReduce(t, rows(void, has), has)
		wantReduce(t, rows(has, void), has)
		wantReduce(t, rows(void, has, void), has)
		wantReduce(t, rows(void, nil), nil)
		wantReduce(t, rows(nil, void), nil)
		wantReduce(t, rows(has, append(of(more("c", num(1))), void...)), has)
		for _, other := range voids("b") {
			wantReduce(t, rows(void, of(other)), void)
		}
		// Whatever comes covers it, one that takes nothing, too.
		wantReduce(t, rows(void, of(api.Pred{})), of(api.Pred{}))
		wantReduce(t, rows(of(api.Pred{}), void), of(api.Pred{}))
	}
}

func TestReduceOfFiltersThatAreNotRight(t *testing.T) {
	for _, p := range wrongTests("a") {
		wrong := of(p)
		// It doesn't cover itself.
		wantReduce(t, rows(wrong, wrong), wrong, wrong)
		wantReduce(t, rows(wrong, of(has("a")), wrong), wrong, of(has("a")), wrong)
		wantReduce(t, rows(wrong, nil), nil)
		wantReduce(t, rows(nil, wrong), nil)
		// Beside others it is not in the way.
		wantReduce(t, rows(of(has("b")), append(wrong, has("b"))), of(has("b")))
		wantReduce(t, rows(append(wrong, has("b")), of(has("b"))), of(has("b")))
	}
	fallen := of(has("b"), has("a"))
	wantReduce(t, rows(fallen, of(has("a"), has("b"))), fallen)
	many := of(has("a"), has("b"), has("c"), has("d"))
	wantReduce(t, rows(many, of(has("d"))), of(has("d")))
	wantReduce(t, rows(many, of(has("e"))), many, of(has("e")))
}

// wide is a list whose Reduce keeps several, some of them by one list.
func wide() [][]api.Pred {
	set := []api.Value{num(1), num(2)}
	twice := of(api.Pred{Name: "?", Set: set})
	return rows(of(in("a", set...)), twice, of(in("b", set...), in("c", set...)), of(is("a", num(1))), twice, of(in("d", set[:1]...)))
}

// wideRow is what Reduce tells of wide.
func wideRow() [][]api.Pred {
	l := wide()
	return rows(l[0], l[1], l[2], l[4], l[5])
}

func TestReduceIsNewMemory(t *testing.T) {
	l := wide()
	row := filter.Reduce(l...)
	if !alikeRows(row, wideRow()) {
		t.Fatalf("Reduce(%+v): %+v", l, row)
	}
	other := filter.Reduce(l...)
	for _, f := range row {
		spoil(f)
	}
	if !alikeRows(l, wide()) {
		t.Errorf("what is written to the row stands in what was handed in: %+v", l)
	}
	if !alikeRows(other, wideRow()) {
		t.Errorf("what is written to the row stands in another one: %+v", other)
	}
	for _, f := range l {
		spoil(f)
	}
	if !alikeRows(other, wideRow()) {
		t.Errorf("what is written to what was handed in stands in the row: %+v", other)
	}
}

// The list that is spread is none of the row's memory either.
func TestReduceLeavesTheListThatIsSpread(t *testing.T) {
	for _, l := range [][][]api.Pred{wide(), rows(of(is("a", num(1))), of(has("b")), of(has("a")), of(is("a", num(2)))), rows(of(has("a"))), nil} {
		whole := append(slices.Clone(l), of(has("spare")), of(has("room")))
		before := slices.Clone(whole)
		row := filter.Reduce(whole[:len(l)]...)
		if !alikeRows(whole, before) {
			t.Errorf("Reduce left %+v of %+v", whole, before)
		}
		for i := range row[:cap(row)] {
			row[:cap(row)][i] = of(has("spoilt"))
		}
		if !alikeRows(whole, before) {
			t.Errorf("what is written to the row stands in the list that was spread: %+v; want %+v", whole, before)
		}
		row = filter.Reduce(whole[:len(l)]...)
		want := anew(row)
		clear(whole)
		if !alikeRows(row, want) {
			t.Errorf("what is written to the list that was spread stands in the row: %+v; want %+v", row, want)
		}
	}
}

// anew is l anew, each part of it in memory of its own.
func anew(l [][]api.Pred) [][]api.Pred {
	var out [][]api.Pred
	for _, f := range l {
		out = append(out, again(f))
	}
	return out
}

func TestReduceHasNoTwoInOneMemory(t *testing.T) {
	for i := range wideRow() {
		row := filter.Reduce(wide()...)
		spoil(row[i])
		for k, f := range wideRow() {
			if k != i && !alike(row[k], f) {
				t.Errorf("what is written to the place %d of the row stands at %d: %+v", i, k, row[k])
			}
		}
	}
	// Nor does one that left stand behind the row, or one that stands in it.
	row := filter.Reduce(of(is("a", num(1))), of(is("a", num(2))), of(has("b")), of(has("a")))
	for _, f := range row[:cap(row)][len(row):] {
		if len(f[:cap(f)]) != 0 {
			t.Errorf("%+v stands behind the row", f)
		}
	}
}

// some are lists of filters out of many, of up to 12 each, chosen by a rule.
func some(many [][]api.Pred, lists int) [][][]api.Pred {
	var all [][][]api.Pred
	state := uint32(1)
	for i := range lists {
		var l [][]api.Pred
		for range i % 13 {
			state = state*1664525 + 1013904223
			l = append(l, many[int(state>>8)%len(many)])
		}
		all = append(all, l)
	}
	return all
}

// asRead is 7.3 word by word, in places of l.
func asRead(l [][]api.Pred) []int {
	var row []int
next:
	for i, f := range l {
		for _, k := range row {
			if filter.Covers(l[k], f) {
				continue next
			}
		}
		var stay []int
		for _, k := range row {
			if !filter.Covers(f, l[k]) {
				stay = append(stay, k)
			}
		}
		row = append(stay, i)
	}
	return row
}

func TestReduceOfManyIsAsRead(t *testing.T) {
	shorter := 0
	for _, l := range some(manyFilters()[1:], 4000) {
		var want [][]api.Pred
		for _, i := range asRead(l) {
			want = append(want, l[i])
		}
		if len(want) < len(l) {
			shorter++
		}
		wantReduce(t, l, want...)
		// None of the row covers another one, and there is nothing left to do.
		wantReduce(t, filter.Reduce(l...), want...)
	}
	if shorter < 1000 {
		t.Errorf("only %d lists are shorter in the row", shorter)
	}
}

// 7.4

func TestReduceTakesWhatItsListTakes(t *testing.T) {
	attributes := manyAttributes()
	lists := some(manyFilters()[1:], 2000)
	for _, f := range several() {
		lists = append(lists, rows(f, of(has("a"))), rows(of(has("a")), f), rows(f, f), rows(f, nil), rows(f, of(is("b", nan))))
	}
	taken, missed := 0, 0
	for _, l := range lists {
		row := filter.Reduce(l...)
		for _, a := range attributes {
			want := filter.Any(l, a)
			if want {
				taken++
			} else {
				missed++
			}
			if filter.Any(row, a) != want {
				t.Errorf("Any(Reduce(%+v), %+v): %t; want %t", l, a, !want, want)
			}
		}
	}
	if taken < 10000 || missed < 10000 {
		t.Errorf("%d are taken, %d not: too few of one", taken, missed)
	}
}

// Each two filters of one test, which is where one test is nearest to another.
func TestReduceOfEachTwoTestsTakesWhatTheyTake(t *testing.T) {
	tests, attributes := manyTests("a"), manyAttributes()
	var taken [][]int
	for _, p := range tests {
		var at []int
		for i, l := range attributes {
			if filter.Takes(of(p), l) {
				at = append(at, i)
			}
		}
		taken = append(taken, at)
	}
	for i, p := range tests {
		for k, q := range tests {
			both := append(slices.Clone(taken[i]), taken[k]...)
			slices.Sort(both)
			both = slices.Compact(both)
			row := filter.Reduce(of(p), of(q))
			if len(row) == 2 {
				continue
			}
			// Where one is passed by, or left, the other one takes all.
			one := taken[i]
			if alike(row[0], of(q)) {
				one = taken[k]
			}
			if len(row) != 1 || !slices.Equal(one, both) {
				t.Errorf("Reduce(%+v, %+v): %+v", p, q, row)
			}
		}
	}
}

// R4

func TestTheSameAnswersAgain(t *testing.T) {
	for _, l := range some(manyFilters(), 200) {
		first := filter.Reduce(l...)
		for range 3 {
			wantReduce(t, l, first...)
		}
	}
}
