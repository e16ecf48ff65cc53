package subs_test

import (
	"math"
	"slices"
	"testing"

	"precentor/api"
	"precentor/subs"
)

// wantApply asks for just these, in that order.
func wantApply(t *testing.T, l []api.Sub, ch []api.Change, want ...api.Sub) {
	t.Helper()
	if now := subs.Apply(l, ch...); !alike(now, want) {
		t.Errorf("Apply(%+v, %+v): %+v; want %+v", l, ch, now, want)
	}
}

// 11.2

func TestApplyOfTheExample(t *testing.T) {
	wantApply(t, list(sub(1, 0, 2)), changes(come(sub(1, 0, 1)), gone(1, 2)), sub(1, 0, 1))
}

func TestApplyOfNoChange(t *testing.T) {
	for _, l := range [][]api.Sub{nil, list(), rising(), scattered(), various()} {
		if now := subs.Apply(l); !alike(now, l) {
			t.Errorf("Apply(%+v): %+v", l, now)
		}
		wantApply(t, l, nil, l...)
		wantApply(t, l, changes(), l...)
		wantApply(t, l, changes(gone(1, 2), come(sub(1, 0, 1)))[:0], l...)
		wantApply(t, l[:0], nil)
	}
}

func TestApplyToNone(t *testing.T) {
	for _, l := range [][]api.Sub{nil, list(), rising()[:0]} {
		for _, s := range various() {
			wantApply(t, l, changes(come(s)), s)
			wantApply(t, l, changes(gone(s.Client, s.Num)))
			wantApply(t, l, changes(come(s), gone(s.Client, s.Num)))
			wantApply(t, l, changes(gone(s.Client, s.Num), come(s)), s)
		}
	}
}

func TestApplyOfOneThatGoes(t *testing.T) {
	l := rising()
	wantApply(t, l, changes(gone(1, 2)), l[1], l[2], l[3], l[4])
	wantApply(t, l, changes(gone(1, 7)), l[0], l[2], l[3], l[4])
	wantApply(t, l, changes(gone(3, 1)), l[0], l[1], l[3], l[4])
	wantApply(t, l, changes(gone(4, 1)), l[0], l[1], l[2], l[4])
	wantApply(t, l, changes(gone(6, 1<<62)), l[0], l[1], l[2], l[3])
	wantApply(t, l[:1], changes(gone(1, 2)))
}

func TestApplyOfOneThatGoesAndIsNotThere(t *testing.T) {
	for _, l := range [][]api.Sub{rising(), rising()[:3], nil} {
		for _, c := range []api.Change{
			gone(1, 1), gone(1, 3), gone(1, 8), gone(2, 2), gone(2, 1), gone(3, 2), gone(3, 7), gone(4, 2), gone(5, 1),
			gone(6, 1), gone(7, 1), gone(0, 0), gone(-1, 2), gone(1, -2), gone(1+1<<32, 2), gone(1, 2+1<<32),
			gone(math.MaxInt, math.MinInt), {Gone: true},
		} {
			wantApply(t, l, changes(c), l...)
		}
	}
	// What stands behind the list is none of it.
	wantApply(t, rising()[:2], changes(gone(3, 1)), rising()[:2]...)
}

func TestApplyOfOneThatGoesAndIsThereSeveralTimes(t *testing.T) {
	l := scattered()
	wantApply(t, l, changes(gone(5, 2)), l[1], l[3], l[4], l[5], l[6], l[8])
	wantApply(t, l, changes(gone(2, 9)), l[0], l[2], l[3], l[4], l[6], l[7], l[8])
	wantApply(t, l, changes(gone(2, 9), gone(5, 2)), l[3], l[4], l[6], l[8])
	wantApply(t, list(l[0], l[0], l[0]), changes(gone(5, 2)))
	wantApply(t, list(l[0], l[2], l[3], l[7], l[0]), changes(gone(5, 2)), l[3])
	wantApply(t, list(l[3], l[2], l[0]), changes(gone(5, 2)), l[3])
}

// Client and Num say which one goes; its Broker and Filter say nothing.
func TestApplyOfOneThatGoesByClientAndNum(t *testing.T) {
	l := list(sub(1, 4, 2, has("a")), sub(2, 4, 2, has("a")), sub(1, 4, 3, has("a")))
	for _, s := range list(sub(1, 4, 2, has("a")), sub(1, 4, 2), sub(1, 0, 2, has("a")), sub(1, -9, 2, wrongFilters()[0]...)) {
		wantApply(t, l, changes(api.Change{Gone: true, Sub: s}), l[1], l[2])
	}
	wantApply(t, l, changes(api.Change{Gone: true, Sub: sub(3, 4, 2, has("a"))}), l...)
	wantApply(t, l, changes(api.Change{Gone: true, Sub: sub(2, 4, 3, has("a"))}), l...)
}

func TestApplyOfOneThatComesInPlace(t *testing.T) {
	l := rising()
	for i, s := range l {
		for _, f := range slices.Concat(rightFilters(), wrongFilters()) {
			for _, broker := range []int{s.Broker, 7, -1} {
				other := sub(s.Client, broker, s.Num, f...)
				want := slices.Clone(l)
				want[i] = other
				wantApply(t, l, changes(come(other)), want...)
				wantApply(t, l[i:i+1], changes(come(other)), other)
			}
		}
		// All of it is the new one's, though it has less.
		wantApply(t, list(sub(1, 5, 1, has("a"), has("b"))), changes(come(sub(1, 5, 1))), sub(1, 5, 1))
	}
}

func TestApplyOfOneThatComesAhead(t *testing.T) {
	l := rising()
	for _, s := range list(sub(1, 4, 1), sub(1, 0, 1, has("z")), sub(0, 7, 9), sub(-3, 4, 100), sub(1, 4, -8), sub(math.MinInt, 0, 0)) {
		wantApply(t, l, changes(come(s)), s, l[0], l[1], l[2], l[3], l[4])
		wantApply(t, l[:1], changes(come(s)), s, l[0])
	}
}

func TestApplyOfOneThatComesBetween(t *testing.T) {
	l := rising()
	for _, c := range []struct {
		s  api.Sub
		at int
	}{
		{sub(1, 4, 3), 1}, {sub(1, 4, 6, has("z")), 1}, // ahead of a greater Num of its Client
		{sub(1, 4, 8), 2}, {sub(1, 4, 1<<62), 2}, {sub(2, 0, 1), 2}, {sub(2, 0, 900), 2}, {sub(3, 0, 0), 2}, // of a greater Client
		{sub(3, 0, 2), 3}, {sub(3, 7, 1<<62), 3}, {sub(4, 4, 0), 3}, {sub(4, 4, 2), 4}, {sub(5, 0, 1<<62+1), 4},
		{sub(6, 2, 1), 4}, {sub(6, 2, 1<<62-1), 4},
	} {
		wantApply(t, l, changes(come(c.s)), slices.Insert(slices.Clone(l), c.at, c.s)...)
	}
}

func TestApplyOfOneThatComesLast(t *testing.T) {
	l := rising()
	for _, s := range list(sub(6, 2, 1<<62+1), sub(6, 0, math.MaxInt, has("z")), sub(7, 0, 1), sub(9, 0, -1), sub(math.MaxInt, 0, 0)) {
		wantApply(t, l, changes(come(s)), l[0], l[1], l[2], l[3], l[4], s)
		wantApply(t, l[4:], changes(come(s)), l[4], s)
	}
	wantApply(t, l[:2], changes(come(sub(1, 4, 8))), l[0], l[1], sub(1, 4, 8))
	wantApply(t, l[:2], changes(come(l[2])), l[0], l[1], l[2])
}

// The first one's place is taken; the others stay as they are.
func TestApplyOfOneThatComesAndIsThereSeveralTimes(t *testing.T) {
	l := scattered()
	s := sub(5, 6, 2, has("z"))
	wantApply(t, l, changes(come(s)), s, l[1], l[2], l[3], l[4], l[5], l[6], l[7], l[8])
	s = sub(2, 6, 9)
	wantApply(t, l, changes(come(s)), l[0], s, l[2], l[3], l[4], l[5], l[6], l[7], l[8])
	wantApply(t, list(l[1], l[1], l[1]), changes(come(s)), s, l[1], l[1])
	wantApply(t, list(l[0], l[1], l[1]), changes(come(s)), l[0], s, l[1])
	wantApply(t, list(l[1], l[1], l[1]), changes(come(s), come(sub(2, 0, 9))), sub(2, 0, 9), l[1], l[1])
}

// Ahead of the first that is above it, wherever that is; but in place of one
// of its Client and Num, though that one stands behind.
func TestApplyToWhatDoesNotRise(t *testing.T) {
	three, one, four := sub(3, 0, 1), sub(1, 0, 5), sub(4, 0, 1)
	two := sub(2, 6, 3)
	wantApply(t, list(three, one, four), changes(come(two)), two, three, one, four)
	wantApply(t, list(one, three, one, four), changes(come(two)), one, two, three, one, four)
	wantApply(t, list(one, four, one, three), changes(come(two)), one, two, four, one, three)
	wantApply(t, list(one, one, one), changes(come(two)), one, one, one, two)
	old := sub(2, 0, 3, has("a"))
	wantApply(t, list(four, three, old, one), changes(come(two)), four, three, two, one)
	wantApply(t, list(four, three, old, old), changes(come(two)), four, three, two, old)
	// By Num of one Client.
	wantApply(t, list(sub(2, 0, 9), sub(2, 0, 1), sub(2, 0, 5)), changes(come(two)), two, sub(2, 0, 9), sub(2, 0, 1), sub(2, 0, 5))
	wantApply(t, list(sub(2, 0, 1), sub(2, 0, 5), sub(2, 0, 2)), changes(come(two)), sub(2, 0, 1), two, sub(2, 0, 5), sub(2, 0, 2))
	wantApply(t, list(sub(2, 0, 2), sub(2, 0, 1), sub(1, 0, 9)), changes(come(two)), sub(2, 0, 2), sub(2, 0, 1), sub(1, 0, 9), two)
	l := scattered()
	wantApply(t, l, changes(come(two)), append(list(two), l...)...)
	wantApply(t, l, changes(come(sub(5, 7, 3))), slices.Insert(slices.Clone(l), 8, sub(5, 7, 3))...)
	wantApply(t, l, changes(come(sub(math.MaxInt, 0, 1))), append(slices.Clone(l), sub(math.MaxInt, 0, 1))...)
}

// Each is done on what the ones ahead of it left.
func TestApplyOfSeveral(t *testing.T) {
	l := rising()
	a, b, c := sub(2, 1, 1, has("x")), sub(2, 1, 2), sub(2, 1, 3, has("y"))
	for _, ch := range [][]api.Change{
		{come(a), come(b), come(c)}, {come(c), come(b), come(a)}, {come(b), come(c), come(a)},
		{come(a), come(c), gone(2, 3), come(b), come(c)}, {gone(2, 2), come(c), come(a), come(b), gone(5, 5)},
	} {
		wantApply(t, l, ch, l[0], l[1], a, b, c, l[2], l[3], l[4])
	}
	wantApply(t, l, changes(come(a), gone(2, 1)), l...)
	wantApply(t, l, changes(gone(2, 1), come(a)), l[0], l[1], a, l[2], l[3], l[4])
	wantApply(t, l, changes(come(sub(2, 1, 1)), come(a)), l[0], l[1], a, l[2], l[3], l[4])
	wantApply(t, l, changes(come(a), come(sub(2, 1, 1))), l[0], l[1], sub(2, 1, 1), l[2], l[3], l[4])
	// One that went comes again where it belongs, as it is now.
	wantApply(t, l, changes(gone(1, 2), come(sub(1, 4, 2))), sub(1, 4, 2), l[1], l[2], l[3], l[4])
	wantApply(t, l, changes(come(sub(1, 4, 2)), gone(1, 2)), l[1], l[2], l[3], l[4])
	wantApply(t, l, changes(gone(1, 2), gone(1, 7), gone(3, 1), gone(4, 1), gone(6, 1<<62)))
	wantApply(t, l, changes(gone(6, 1<<62), gone(4, 1), gone(1, 2), gone(1, 2)), l[1], l[2])
}

func TestApplyOfSeveralToWhatDoesNotRise(t *testing.T) {
	l := list(sub(5, 0, 1), sub(2, 0, 1, has("a")), sub(5, 1, 1))
	two := sub(2, 7, 1)
	// It stands in place while there is one, but ahead when that one has gone.
	wantApply(t, l, changes(come(two)), l[0], two, l[2])
	wantApply(t, l, changes(gone(2, 1), come(two)), two, l[0], l[2])
	wantApply(t, l, changes(gone(5, 1), come(two), come(sub(5, 2, 1))), two, sub(5, 2, 1))
	wantApply(t, l, changes(come(sub(5, 2, 1)), gone(2, 1), come(sub(5, 3, 1))), sub(5, 3, 1), l[2])
}

func TestApplyOfAllAtOnceIsOneByOne(t *testing.T) {
	state := uint32(1)
	next := func(n int) int {
		state = state*1664525 + 1013904223
		return int(state>>8) % n
	}
	for _, l := range [][]api.Sub{nil, rising(), scattered()} {
		var ch []api.Change
		now := l
		for range 60 {
			s := sub(next(5), next(3), next(4), rightFilters()[next(6)]...)
			c := api.Change{Gone: next(3) == 0, Sub: s}
			ch = append(ch, c)
			now = subs.Apply(now, c)
			wantApply(t, l, ch, now...)
		}
	}
}

// More of one Client than may be are done as any others, and stand where they
// belong.
func TestApplyDoesNotAskWhatIsRight(t *testing.T) {
	var now []api.Sub
	for num := 9; num >= 1; num-- {
		now = subs.Apply(now, come(sub(2, num%3, num)))
	}
	if len(now) != 9 || !slices.IsSortedFunc(now, func(a, b api.Sub) int { return a.Num - b.Num }) {
		t.Errorf("nine of one Client: %+v", now)
	}
	wantRight(t, now, false)
	wantApply(t, now, changes(gone(2, 1), gone(2, 2), gone(2, 4), gone(2, 5), gone(2, 7), gone(2, 8)), sub(2, 0, 3), sub(2, 0, 6), sub(2, 0, 9))
}

// done is 11.2 word by word.
func done(l []api.Sub, c api.Change) []api.Sub {
	var now []api.Sub
	if c.Gone {
		for _, s := range l {
			if s.Client != c.Sub.Client || s.Num != c.Sub.Num {
				now = append(now, s)
			}
		}
		return now
	}
	at, in := len(l), 0
	for i := len(l) - 1; i >= 0; i-- {
		if l[i].Client > c.Sub.Client || l[i].Client == c.Sub.Client && l[i].Num > c.Sub.Num {
			at = i
		}
	}
	for i := len(l) - 1; i >= 0; i-- {
		if l[i].Client == c.Sub.Client && l[i].Num == c.Sub.Num {
			at, in = i, 1
		}
	}
	now = append(now, l[:at]...)
	now = append(now, c.Sub)
	return append(now, l[at+in:]...)
}

// Of all small lists, rising and not, and of each change, and each two.
func TestApplyToManyIsAsRead(t *testing.T) {
	all := list(sub(1, 0, 1), sub(1, 0, 3, has("a")), sub(2, 5, 2), sub(3, 1, 1), sub(3, 1, 3))
	var ch []api.Change
	for client := 1; client <= 3; client++ {
		for num := 1; num <= 3; num++ {
			ch = append(ch, gone(client, num), come(sub(client, 7, num, has("z"))))
		}
	}
	each(all, 4, func(l []api.Sub) {
		for _, c := range ch {
			wantApply(t, l, changes(c), done(l, c)...)
		}
	})
	each(all, 3, func(l []api.Sub) {
		for _, c := range ch {
			for _, d := range ch {
				wantApply(t, l, changes(c, d), done(done(l, c), d)...)
			}
		}
	})
}
