package tree_test

import (
	"math"
	"slices"
	"testing"

	"precentor/api"
	"precentor/tree"
)

// The trees that the tests look at most.
var (
	alone  []int
	three  = []int{0, 0, 1}             // the one of the examples
	line   = []int{0, 1, 2, 3, 4, 5, 6} // each below the one ahead of it
	star   = []int{0, 0, 0, 0, 0, 0, 0} // all below the root
	bushes = []int{0, 0, 1, 1, 2, 1, 4} // 0: 1 2; 1: 3 4 6; 2: 5; 4: 7
)

// wrongTrees are some that are not right, each for a reason of its own.
func wrongTrees() [][]int {
	return [][]int{
		{1}, {-1}, {2}, {math.MaxInt}, {math.MinInt},
		{0, 2}, {0, -1}, {-1, 0}, {1, 0}, {1, 1}, {0, 0, 3}, {0, 2, 0}, {0, 1, 2, 4},
		{0, 1, 2, 3, 4, 5, 7}, {0, 0, 0, 0, 0, 0, -1},
		append(slices.Clone(line), 7), append(slices.Clone(star), 0), make([]int, 300),
	}
}

// noBrokers are some numbers that are no brokers of p.
func noBrokers(p []int) []int {
	return []int{-1, -2, -len(p) - 1, math.MinInt, len(p) + 1, len(p) + 2, api.MaxBrokers, math.MaxInt}
}

func wantRight(t *testing.T, p []int, want bool) {
	t.Helper()
	if right := tree.Right(p); right != want {
		t.Errorf("Right(%v): %t; want %t", p, right, want)
	}
}

func wantNear(t *testing.T, p []int, b int, want ...int) {
	t.Helper()
	if near := tree.Near(p, b); !slices.Equal(near, want) {
		t.Errorf("Near(%v, %d): %v; want %v", p, b, near, want)
	}
}

func wantKids(t *testing.T, p []int, b int, want ...int) {
	t.Helper()
	if kids := tree.Kids(p, b); !slices.Equal(kids, want) {
		t.Errorf("Kids(%v, %d): %v; want %v", p, b, kids, want)
	}
}

func wantNext(t *testing.T, p []int, from, to, want int) {
	t.Helper()
	if next := tree.Next(p, from, to); next != want {
		t.Errorf("Next(%v, %d, %d): %d; want %d", p, from, to, next, want)
	}
}

// wantDist asks it both ways.
func wantDist(t *testing.T, p []int, a, b, want int) {
	t.Helper()
	if there, back := tree.Dist(p, a, b), tree.Dist(p, b, a); there != want || back != want {
		t.Errorf("Dist(%v, %d, %d): %d, turned round %d; want %d", p, a, b, there, back, want)
	}
}

func wantSide(t *testing.T, p []int, b, n int, want ...int) {
	t.Helper()
	if side := tree.Side(p, b, n); !slices.Equal(side, want) {
		t.Errorf("Side(%v, %d, %d): %v; want %v", p, b, n, side, want)
	}
}

// wantPlace asks it of l as it stands and turned round.
func wantPlace(t *testing.T, p []int, want int, l ...int) {
	t.Helper()
	round := slices.Clone(l)
	slices.Reverse(round)
	if place, turned := tree.Place(p, l...), tree.Place(p, round...); place != want || turned != want {
		t.Errorf("Place(%v, %v): %d, turned round %d; want %d", p, l, place, turned, want)
	}
}

// 9.1 Right

func TestRightByHowMany(t *testing.T) {
	wantRight(t, nil, true)
	wantRight(t, []int{}, true)
	for n := range 3 * api.MaxBrokers {
		p := make([]int, n)
		wantRight(t, p, n <= api.MaxBrokers-1)
		for i := range p {
			p[i] = i
		}
		wantRight(t, p, n <= api.MaxBrokers-1)
	}
	wantRight(t, make([]int, 100_000), false)
}

// Each p[i] of a tree is turned to what is around its ends; the others stay.
func TestRightByEachParent(t *testing.T) {
	for _, p := range [][]int{three, line, star, bushes, {0}, {0, 1}, {0, 0, 1, 2, 1, 5}} {
		wantRight(t, p, true)
		for i := range p {
			q := slices.Clone(p)
			for up := -3; up <= api.MaxBrokers+1; up++ {
				q[i] = up
				wantRight(t, q, up >= 0 && up <= i)
			}
			for _, up := range []int{math.MinInt, math.MaxInt, -1 << 32, 1 << 32, 256} {
				q[i] = up
				wantRight(t, q, false)
			}
		}
	}
}

func TestRightOfWrongTrees(t *testing.T) {
	for _, p := range wrongTrees() {
		wantRight(t, p, false)
	}
}

// 9.1 What the others answer of what is not right

// wantNothing asks that Near and Kids tell none of b, and that all calls tell
// none, or -1, of b beside each of others, on either side.
func wantNothing(t *testing.T, p []int, b int, others []int) {
	t.Helper()
	wantNear(t, p, b)
	wantKids(t, p, b)
	for _, other := range append([]int{b}, others...) {
		wantNext(t, p, b, other, -1)
		wantNext(t, p, other, b, -1)
		wantDist(t, p, b, other, -1)
		wantSide(t, p, b, other)
		wantSide(t, p, other, b)
		wantPlace(t, p, -1, b, other)
		wantPlace(t, p, -1, other, other, b)
		wantPlace(t, p, -1, other, b, other)
	}
	wantPlace(t, p, -1, b)
}

func TestNothingOfATreeThatIsNotRight(t *testing.T) {
	for _, p := range wrongTrees() {
		brokers := []int{-1, 0, 1, 2, 3, 4, 5, 6, 7, 8, len(p), len(p) + 1, math.MinInt, math.MaxInt}
		for _, b := range brokers {
			wantNothing(t, p, b, brokers)
		}
		wantPlace(t, p, -1)
	}
}

func TestNothingOfABrokerThatIsNone(t *testing.T) {
	for _, p := range [][]int{alone, {0}, three, line, star, bushes} {
		all := noBrokers(p)
		for b := range len(p) + 1 {
			all = append(all, b)
		}
		for _, none := range noBrokers(p) {
			wantNothing(t, p, none, all)
		}
	}
}

// One that is none, at each place among many that are brokers.
func TestPlaceOfOneAmongSeveralThatIsNone(t *testing.T) {
	for _, none := range noBrokers(bushes) {
		for at := range 9 {
			l := []int{3, 4, 4, 0, 7, 3, 1, 1, 6}
			wantPlace(t, bushes, 1, l...)
			l[at] = none
			wantPlace(t, bushes, -1, l...)
		}
	}
}

// The last broker is one; the next number is none.
func TestTheLastBroker(t *testing.T) {
	for n := range api.MaxBrokers {
		p := make([]int, n)
		wantDist(t, p, n, n, 0)
		wantDist(t, p, n+1, n+1, -1)
		wantPlace(t, p, n, n)
		wantPlace(t, p, -1, n+1)
	}
}

// 9.2 Near

func TestNear(t *testing.T) {
	wantNear(t, three, 1, 0, 3) // the chapter's example
	wantNear(t, alone, 0)
	wantNear(t, []int{}, 0)
	wantNear(t, []int{0}, 0, 1)
	wantNear(t, []int{0}, 1, 0)
	wantNear(t, star, 0, 1, 2, 3, 4, 5, 6, 7)
	wantNear(t, star, 7, 0)
	wantNear(t, line, 0, 1)
	wantNear(t, line, 4, 3, 5)
	wantNear(t, line, 7, 6)
	for b, want := range [][]int{{1, 2}, {0, 3, 4, 6}, {0, 5}, {1}, {1, 7}, {2}, {1}, {4}} {
		wantNear(t, bushes, b, want...)
	}
}

// 9.2 Kids

func TestKids(t *testing.T) {
	wantKids(t, alone, 0)
	wantKids(t, []int{}, 0)
	wantKids(t, []int{0}, 0, 1)
	wantKids(t, []int{0}, 1)
	wantKids(t, star, 0, 1, 2, 3, 4, 5, 6, 7)
	wantKids(t, star, 1)
	wantKids(t, line, 3, 4)
	wantKids(t, line, 7)
	for b, want := range [][]int{{1, 2}, {3, 4, 6}, {5}, nil, {7}, nil, nil, nil} {
		wantKids(t, bushes, b, want...)
	}
}

// 9.2 Dist

func TestDist(t *testing.T) {
	wantDist(t, alone, 0, 0, 0)
	for b := range len(bushes) + 1 {
		wantDist(t, bushes, b, b, 0)
	}
	for i, up := range bushes {
		wantDist(t, bushes, i+1, up, 1)
	}
	wantDist(t, bushes, 7, 1, 2) // up
	wantDist(t, bushes, 7, 0, 3)
	wantDist(t, bushes, 3, 4, 2) // up and down again
	wantDist(t, bushes, 3, 7, 3)
	wantDist(t, bushes, 2, 6, 3)
	wantDist(t, bushes, 5, 6, 4)
	wantDist(t, bushes, 5, 7, 5)
	for a := range api.MaxBrokers {
		for b := range a {
			wantDist(t, line, a, b, a-b)
			wantDist(t, star, a, b, min(b, 1)+1)
		}
	}
}

// 9.2 Next

func TestNext(t *testing.T) {
	wantNext(t, three, 3, 2, 1) // the chapter's example
	wantNext(t, alone, 0, 0, -1)
	for b := range len(bushes) + 1 {
		wantNext(t, bushes, b, b, -1)
	}
	for i, up := range bushes {
		wantNext(t, bushes, i+1, up, up)
		wantNext(t, bushes, up, i+1, i+1)
	}
	wantNext(t, bushes, 7, 0, 4) // up
	wantNext(t, bushes, 4, 0, 1)
	wantNext(t, bushes, 0, 7, 1) // down
	wantNext(t, bushes, 1, 7, 4)
	wantNext(t, bushes, 0, 5, 2)
	wantNext(t, bushes, 3, 7, 1) // up and down again
	wantNext(t, bushes, 7, 3, 4)
	wantNext(t, bushes, 5, 6, 2)
	wantNext(t, bushes, 6, 5, 1)
	wantNext(t, bushes, 2, 7, 0)
	wantNext(t, bushes, 1, 5, 0)
	for a := range api.MaxBrokers {
		for b := range a {
			wantNext(t, line, a, b, a-1)
			wantNext(t, line, b, a, b+1)
		}
	}
}

// 9.2 Side

func TestSideOfEachThatIsNear(t *testing.T) {
	wantSide(t, bushes, 0, 1, 1, 3, 4, 6, 7)
	wantSide(t, bushes, 0, 2, 2, 5)
	wantSide(t, bushes, 1, 0, 0, 2, 5)
	wantSide(t, bushes, 1, 3, 3)
	wantSide(t, bushes, 1, 4, 4, 7)
	wantSide(t, bushes, 1, 6, 6)
	wantSide(t, bushes, 2, 0, 0, 1, 3, 4, 6, 7)
	wantSide(t, bushes, 2, 5, 5)
	wantSide(t, bushes, 7, 4, 0, 1, 2, 3, 4, 5, 6)
	wantSide(t, line, 3, 2, 0, 1, 2)
	wantSide(t, line, 3, 4, 4, 5, 6, 7)
	wantSide(t, star, 0, 5, 5)
	wantSide(t, star, 5, 0, 0, 1, 2, 3, 4, 6, 7)
}

func TestSideOfOneThatIsNotNear(t *testing.T) {
	for _, p := range [][]int{alone, {0}, three, line, star, bushes} {
		for b := range len(p) + 1 {
			wantSide(t, p, b, b)
			wantSide(t, p, b, -1)
		}
	}
	wantSide(t, bushes, 0, 3)
	wantSide(t, bushes, 3, 0)
	wantSide(t, bushes, 1, 7)
	wantSide(t, bushes, 3, 4)
	wantSide(t, line, 2, 4)
	wantSide(t, star, 1, 2)
}

// 9.2 Place

func TestPlace(t *testing.T) {
	wantPlace(t, three, 3, 3, 3, 2) // the chapter's example
	for _, p := range [][]int{alone, {0}, three, line, star, bushes} {
		wantPlace(t, p, -1)
		for b := range len(p) + 1 {
			wantPlace(t, p, b, b)
			wantPlace(t, p, b, b, b)
			wantPlace(t, p, b, b, 0, b)
		}
	}
	wantPlace(t, bushes, 1, 3, 6, 7)
	wantPlace(t, bushes, 4, 3, 7, 7, 4)
	wantPlace(t, bushes, 0, 2, 5, 3, 6, 0)
	wantPlace(t, bushes, 2, 5, 5, 3, 2)
}

// All that lie between two are as near to both; the least of them is told.
func TestPlaceOfSeveralThatAreAsNear(t *testing.T) {
	wantPlace(t, bushes, 0, 1, 2)
	wantPlace(t, bushes, 0, 5, 7)
	wantPlace(t, bushes, 1, 3, 7)
	wantPlace(t, bushes, 1, 7, 4, 3, 1)
	wantPlace(t, bushes, 2, 2, 5)
	wantPlace(t, line, 2, 5, 2)
	wantPlace(t, line, 2, 7, 1, 2, 6)
	wantPlace(t, star, 0, 4, 3)
	wantPlace(t, star, 0, 3, 3, 4, 4)
}

func TestPlaceOfAll(t *testing.T) {
	for n := range api.MaxBrokers {
		all := make([]int, n+1)
		for b := range all {
			all[b] = b
		}
		wantPlace(t, line[:n], n/2, all...)
		wantPlace(t, star[:n], 0, all...)
	}
	wantPlace(t, bushes, 1, 0, 1, 2, 3, 4, 5, 6, 7)
}

// A long list tells as its parts do.
func TestPlaceOfVeryMany(t *testing.T) {
	l := append(slices.Repeat([]int{7}, 300_001), slices.Repeat([]int{0}, 300_000)...)
	wantPlace(t, line, 7, l...)
	wantPlace(t, line, 0, append(l, 0)...)
	wantPlace(t, line, -1, append(l, 8)...)
}
