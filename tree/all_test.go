package tree_test

import (
	"slices"
	"testing"

	"precentor/api"
	"precentor/tree"
)

// eachTree hands f every tree of at most MaxBrokers brokers that may be.
func eachTree(f func(p []int)) {
	var grow func(p []int)
	grow = func(p []int) {
		f(slices.Clone(p))
		if len(p) == api.MaxBrokers-1 {
			return
		}
		for up := range len(p) + 1 {
			grow(append(slices.Clone(p), up))
		}
	}
	grow(nil)
}

// links tells of each two brokers whether there is a link between them.
func links(p []int) [][]bool {
	l := make([][]bool, len(p)+1)
	for b := range l {
		l[b] = make([]bool, len(p)+1)
	}
	for i, up := range p {
		l[i+1][up], l[up][i+1] = true, true
	}
	return l
}

// ways tells how many links lie between each two, found by going over them in
// whatever direction.
func ways(p []int) [][]int {
	l := links(p)
	far := make([][]int, len(l))
	for a := range far {
		far[a] = slices.Repeat([]int{-1}, len(l))
		far[a][a] = 0
		edge := []int{a}
		for len(edge) > 0 {
			b := edge[0]
			edge = edge[1:]
			for c, linked := range l[b] {
				if linked && far[a][c] < 0 {
					far[a][c] = far[a][b] + 1
					edge = append(edge, c)
				}
			}
		}
	}
	return far
}

// chosen tells those of n brokers that ok takes, rising.
func chosen(n int, ok func(b int) bool) []int {
	var l []int
	for b := range n {
		if ok(b) {
			l = append(l, b)
		}
	}
	return l
}

// nearest tells the first of those from which the ways to all of l are least.
func nearest(far [][]int, l []int) int {
	best, least := -1, 0
	for b := range far {
		sum := 0
		for _, other := range l {
			sum += far[other][b]
		}
		if best < 0 || sum < least {
			best, least = b, sum
		}
	}
	return best
}

// dice throws numbers that are the same in every run.
type dice struct{ state uint64 }

func (d *dice) below(n int) int {
	d.state = d.state*6364136223846793005 + 1442695040888963407
	return int(d.state>>33) % n
}

func TestThereAreAsManyTreesAsThereMayBe(t *testing.T) {
	count := 0
	eachTree(func(p []int) {
		wantRight(t, p, true)
		count++
	})
	if count != 1+1+2+6+24+120+720+5040 {
		t.Errorf("%d trees", count)
	}
}

// 9.1 Right, over all lists of numbers near those that may be.
func TestRightOfAllShortLists(t *testing.T) {
	var grow func(p []int, right bool)
	grow = func(p []int, right bool) {
		wantRight(t, p, right)
		if len(p) == 5 {
			return
		}
		for up := -1; up <= len(p)+1; up++ {
			grow(append(slices.Clone(p), up), right && up >= 0 && up <= len(p))
		}
	}
	grow(nil, true)
}

// 9.2 Near, Kids, Dist, Next and Side, over all trees.
func TestWaysOfAllTrees(t *testing.T) {
	eachTree(func(p []int) {
		l, far, n := links(p), ways(p), len(p)+1
		for a := range n {
			wantNear(t, p, a, chosen(n, func(b int) bool { return l[a][b] })...)
			wantKids(t, p, a, chosen(n, func(b int) bool { return b > 0 && p[b-1] == a })...)
			for b := range n {
				wantDist(t, p, a, b, far[a][b])
				next := -1
				for c := range n {
					if l[a][c] && far[c][b] < far[a][b] {
						next = c
					}
				}
				wantNext(t, p, a, b, next)
				wantSide(t, p, a, b, chosen(n, func(c int) bool { return l[a][b] && far[b][c] < far[a][c] })...)
			}
		}
	})
}

// 9.2 The answers hang together: Next leads there in Dist steps, and the
// Sides of a broker hold each other one just once.
func TestAnswersHangTogether(t *testing.T) {
	eachTree(func(p []int) {
		for a := range len(p) + 1 {
			around := []int{a}
			for _, n := range tree.Near(p, a) {
				side := tree.Side(p, a, n)
				for _, b := range side {
					wantNext(t, p, a, b, n)
				}
				around = append(around, side...)
			}
			slices.Sort(around)
			if !slices.Equal(around, chosen(len(p)+1, func(int) bool { return true })) {
				t.Errorf("%v: the Sides of %d with itself: %v", p, a, around)
			}
			for b := range len(p) + 1 {
				at := a
				for range tree.Dist(p, a, b) {
					at = tree.Next(p, at, b)
				}
				if at != b {
					t.Errorf("%v: Next leads from %d to %d by way of Dist to %d", p, a, b, at)
				}
			}
		}
	})
}

// 9.2 Place, over all trees, of each two of their brokers and of longer lists.
func TestPlaceOfAllTrees(t *testing.T) {
	d := &dice{}
	eachTree(func(p []int) {
		far, n := ways(p), len(p)+1
		for a := range n {
			for b := range n {
				wantPlace(t, p, nearest(far, []int{a, b}), a, b)
			}
		}
		for range 20 {
			l := make([]int, 1+d.below(12))
			for i := range l {
				l[i] = d.below(n)
			}
			wantPlace(t, p, nearest(far, l), l...)
		}
	})
}

// R2

// roomy is l with spare room behind it, in which something stands; whole is
// that room with l ahead of it.
func roomy(l []int) (short, whole []int) {
	whole = append(slices.Clone(l), 0, 1, 77)
	return whole[:len(l):len(whole)], whole
}

// someTrees are right and wrong ones.
func someTrees() [][]int {
	return append(wrongTrees(), alone, []int{0}, three, line, star, bushes)
}

// What is handed in stays as it is, its spare room too.
func TestWhatIsHandedInStays(t *testing.T) {
	for _, tr := range someTrees() {
		p, whole := roomy(tr)
		list, wholeList := roomy([]int{2, 1, 0, 0, len(tr), 1})
		_, before := roomy(tr)
		_, beforeList := roomy([]int{2, 1, 0, 0, len(tr), 1})
		tree.Right(p)
		tree.Place(p, list...)
		tree.Place(p, list[:0]...)
		for a := -1; a <= len(tr)+1; a++ {
			tree.Near(p, a)
			tree.Kids(p, a)
			for b := -1; b <= len(tr)+1; b++ {
				tree.Next(p, a, b)
				tree.Dist(p, a, b)
				tree.Side(p, a, b)
			}
		}
		if !slices.Equal(whole, before) {
			t.Errorf("left %v of %v", whole, before)
		}
		if !slices.Equal(wholeList, beforeList) {
			t.Errorf("left %v of %v", wholeList, beforeList)
		}
	}
}

// spoil writes over all of l, its spare room too.
func spoil(l []int) {
	l = l[:cap(l)]
	for i := range l {
		l[i] = -99
	}
}

// An answer is memory of its own: whoever writes over it changes neither
// what was handed in nor another answer, and is not seen by the next call.
func TestAnswersAreNewMemory(t *testing.T) {
	calls := []func(p []int) []int{
		func(p []int) []int { return tree.Near(p, 1) },
		func(p []int) []int { return tree.Kids(p, 1) },
		func(p []int) []int { return tree.Kids(p, 0) },
		func(p []int) []int { return tree.Side(p, 0, 1) },
		func(p []int) []int { return tree.Side(p, 1, 0) },
	}
	for _, tr := range [][]int{three, line, star, bushes} {
		for i, call := range calls {
			p, whole := roomy(tr)
			_, before := roomy(tr)
			first, second := call(p), call(p)
			want := slices.Clone(second)
			spoil(first)
			if !slices.Equal(whole, before) || !slices.Equal(second, want) || !slices.Equal(call(p), want) {
				t.Errorf("call %d of %v: what was written into an answer is seen elsewhere", i, tr)
			}
		}
	}
}

// Nothing of p is kept: one turned to another tree is told anew.
func TestNothingIsKept(t *testing.T) {
	p := slices.Clone(star)
	near, side := tree.Near(p, 0), tree.Side(p, 3, 0)
	copy(p, line)
	if !slices.Equal(near, []int{1, 2, 3, 4, 5, 6, 7}) || !slices.Equal(side, []int{0, 1, 2, 4, 5, 6, 7}) {
		t.Errorf("answers followed p: %v, %v", near, side)
	}
	wantNear(t, p, 0, 1)
	wantSide(t, p, 3, 2, 0, 1, 2)
	wantPlace(t, p, 3, 1, 3, 5)
	wantDist(t, p, 1, 6, 5)
	wantNext(t, p, 1, 6, 2)
}

// nil and an empty list are the same.
func TestNilIsAnEmptyList(t *testing.T) {
	for _, p := range [][]int{nil, {}, make([]int, 0, 5)} {
		wantRight(t, p, true)
		wantNear(t, p, 0)
		wantKids(t, p, 0)
		wantNext(t, p, 0, 0, -1)
		wantDist(t, p, 0, 0, 0)
		wantSide(t, p, 0, 0)
		wantPlace(t, p, 0, 0, 0)
		wantPlace(t, p, -1)
		wantPlace(t, p, -1, []int{}...)
		wantPlace(t, p, -1, 1)
	}
}
