package config_test

import (
	"math"
	"slices"
	"testing"

	"precentor/api"
	"precentor/config"
)

// The trees that the tests look at most.
var (
	alone  []int
	pair   = []int{0}
	three  = []int{0, 0}                // the one of the example
	line   = []int{0, 1, 2, 3, 4, 5, 6} // each below the one ahead of it
	star   = []int{0, 0, 0, 0, 0, 0, 0} // all below the root
	bushes = []int{0, 0, 1, 1, 2, 1, 4}
)

// rightTrees are some that may be, of one broker up to as many as there may be.
func rightTrees() [][]int {
	trees := [][]int{alone, {}, pair, three, line, star, bushes}
	for n := range line {
		trees = append(trees, line[:n:n], star[:n:n], bushes[:n:n])
	}
	return trees
}

// wrongTrees are some that may not be, each for a reason of its own.
func wrongTrees() [][]int {
	return [][]int{
		{-1}, {math.MinInt}, {0, -1}, {-1, 0}, {0, 1, 2, 3, 4, 5, -1}, // below 0
		{1}, {2}, {math.MaxInt}, {0, 2}, {0, 1, 3}, {0, 0, 3, 0}, {0, 1, 2, 3, 4, 5, 7}, // above its place
		append(slices.Clone(star), 0), append(slices.Clone(line), 7), make([]int, 300), // too many
	}
}

// number is one of a Config's, and what it may be.
type number struct {
	name      string
	low, high int
	of        func(c *api.Config) *int
}

// numbers are all of them; the bounds are those of the chapter and of api.
func numbers() []number {
	return []number{
		{"Window", 1, 8, func(c *api.Config) *int { return &c.Window }},
		{"Resend", 1, 8, func(c *api.Config) *int { return &c.Resend }},
		{"Queue", 1, 8, func(c *api.Config) *int { return &c.Queue }},
		{"Flight", 1, 4, func(c *api.Config) *int { return &c.Flight }},
		{"Start", 0, 1 << 62, func(c *api.Config) *int { return &c.Start }},
	}
}

// outside are numbers beyond n's bounds: just beyond, as far as there are,
// and some that are within them by their low bits alone.
func (n number) outside() []int {
	l := []int{n.low - 1, n.low - 2, -n.high, math.MinInt, math.MinInt + 1, math.MinInt + n.low, n.high + 1, n.high + 2, math.MaxInt}
	if n.high < 1<<8 {
		l = append(l, n.low+1<<8, n.low+1<<16, n.low+1<<32, n.high+1<<32, n.low+1<<62)
	}
	return l
}

// inside are numbers at n's bounds and between.
func (n number) inside() []int {
	return []int{n.low, n.low + 1, (n.low + n.high) / 2, n.high - 1, n.high}
}

// least has all numbers at their least, but Start in the midst of its bounds,
// so that no two of them are held for one another.
func least(parents []int) api.Config {
	return api.Config{Parents: parents, Window: 1, Resend: 1, Queue: 1, Flight: 1, Start: 1 << 61}
}

// most has all numbers at their most.
func most(parents []int) api.Config {
	return api.Config{Parents: parents, Window: 8, Resend: 8, Queue: 8, Flight: 4, Start: 1 << 62}
}

// mixed has numbers each of which is another one.
func mixed(parents []int) api.Config {
	return api.Config{Parents: parents, Window: 5, Resend: 7, Queue: 6, Flight: 3, Start: 1 << 40}
}

// configs are some that may be, over p.
func configs(p []int) []api.Config {
	return []api.Config{least(p), most(p), mixed(p)}
}

// wantCounts asks Brokers, Flying and Room.
func wantCounts(t *testing.T, c api.Config, brokers, flying, room int) {
	t.Helper()
	if n, f, r := config.Brokers(c), config.Flying(c), config.Room(c); n != brokers || f != flying || r != room {
		t.Errorf("Brokers, Flying, Room(%v): %d, %d, %d; want %d, %d, %d", c, n, f, r, brokers, flying, room)
	}
}

// wantFine asks that c may be.
func wantFine(t *testing.T, c api.Config) {
	t.Helper()
	if e := config.Check(c); e != api.OK {
		t.Errorf("Check(%v): %d; want OK", c, e)
	}
	if n := config.Brokers(c); n != len(c.Parents)+1 {
		t.Errorf("Brokers(%v): %d; want %d", c, n, len(c.Parents)+1)
	}
}

// wantRefused asks that Check answers e, and the counts 0.
func wantRefused(t *testing.T, c api.Config, e api.Errno) {
	t.Helper()
	if told := config.Check(c); told != e {
		t.Errorf("Check(%v): %d; want %d", c, told, e)
	}
	wantCounts(t, c, 0, 0, 0)
}

// 10.1 Check

func TestTheLimitsAreThoseOfTheTests(t *testing.T) {
	highs := []int{api.MaxWindow, api.MaxResend, api.MaxQueue, api.MaxFlight, api.MaxNumber}
	for i, n := range numbers() {
		if n.high != highs[i] {
			t.Errorf("%s: at most %d; api says %d", n.name, n.high, highs[i])
		}
	}
	if len(line) != api.MaxBrokers-1 || len(star) != api.MaxBrokers-1 || len(bushes) != api.MaxBrokers-1 {
		t.Errorf("trees of fewer or more than %d brokers", api.MaxBrokers)
	}
}

func TestCheckOfTrees(t *testing.T) {
	for _, p := range rightTrees() {
		for _, c := range configs(p) {
			wantFine(t, c)
		}
	}
	for _, p := range wrongTrees() {
		for _, c := range configs(p) {
			wantRefused(t, c, api.ErrForm)
		}
	}
}

func TestCheckByHowManyParents(t *testing.T) {
	for n := range 3 * api.MaxBrokers {
		c := mixed(make([]int, n))
		if n <= api.MaxBrokers-1 {
			wantFine(t, c)
		} else {
			wantRefused(t, c, api.ErrForm)
		}
	}
	wantRefused(t, mixed(make([]int, 100_000)), api.ErrForm)
}

// Each number alone is turned; the others stay as they may be.
func TestCheckOfEachNumberAlone(t *testing.T) {
	for _, p := range [][]int{alone, three, bushes} {
		for _, c := range configs(p) {
			for _, n := range numbers() {
				for _, in := range n.inside() {
					d := c
					*n.of(&d) = in
					wantFine(t, d)
				}
				for _, out := range n.outside() {
					d := c
					*n.of(&d) = out
					wantRefused(t, d, api.ErrArg)
				}
			}
		}
	}
}

// What may be is all from low to high, not the bounds alone.
func TestCheckOfEachSmallNumber(t *testing.T) {
	for _, n := range numbers() {
		for to := -20; to <= 20; to++ {
			c := mixed(pair)
			*n.of(&c) = to
			if n.low <= to && to <= n.high {
				wantFine(t, c)
			} else {
				wantRefused(t, c, api.ErrArg)
			}
		}
	}
}

// Whether one number may be does not hang on the others: all of them at and
// around their bounds, each with each.
func TestCheckOfAllNumbersTogether(t *testing.T) {
	edges := func(n number) []int {
		return []int{math.MinInt, n.low - 1, n.low, n.high, n.high + 1, math.MaxInt}
	}
	var grow func(c api.Config, rest []number, fine bool)
	grow = func(c api.Config, rest []number, fine bool) {
		if len(rest) == 0 {
			if fine {
				wantFine(t, c)
			} else {
				wantRefused(t, c, api.ErrArg)
			}
			return
		}
		for i, to := range edges(rest[0]) {
			d := c
			*rest[0].of(&d) = to
			grow(d, rest[1:], fine && (i == 2 || i == 3))
		}
	}
	grow(api.Config{Parents: bushes}, numbers(), true)
}

// Of Parents that are none ErrForm is told, whatever the numbers are.
func TestWrongParentsAreToldFirst(t *testing.T) {
	for _, p := range wrongTrees() {
		wantRefused(t, api.Config{Parents: p}, api.ErrForm)
		all := api.Config{Parents: p, Window: -1, Resend: 9, Queue: math.MinInt, Flight: 5, Start: math.MaxInt}
		wantRefused(t, all, api.ErrForm)
		for _, n := range numbers() {
			for _, out := range n.outside() {
				c := mixed(p)
				*n.of(&c) = out
				wantRefused(t, c, api.ErrForm)
			}
		}
	}
}

// The zero Config has a tree, of the root alone, but numbers that may not be.
func TestTheZeroConfig(t *testing.T) {
	wantRefused(t, api.Config{}, api.ErrArg)
	wantRefused(t, api.Config{Parents: []int{}}, api.ErrArg)
	wantFine(t, api.Config{Window: 1, Resend: 1, Queue: 1, Flight: 1})
}

// 10.2 Brokers, Flying, Room

func TestTheExample(t *testing.T) {
	c := api.Config{Parents: []int{0, 0}, Window: 1, Resend: 1, Queue: 1, Flight: 2, Start: 1}
	if room := config.Room(c); room != 35 {
		t.Errorf("Room(%v): %d; want 35", c, room)
	}
	wantCounts(t, c, 3, 6, 35)
}

func TestCountsOfOneBroker(t *testing.T) {
	wantCounts(t, least(alone), 1, 1, 11)
	wantCounts(t, least([]int{}), 1, 1, 11)
	wantCounts(t, mixed(alone), 1, 3, 15)
	wantCounts(t, most(alone), 1, 4, 17)
}

func TestCountsOfSeveralBrokers(t *testing.T) {
	wantCounts(t, least(pair), 2, 2, 16)
	wantCounts(t, mixed(pair), 2, 6, 28)
	wantCounts(t, most(pair), 2, 8, 34)
	wantCounts(t, least(three), 3, 3, 23)
	wantCounts(t, mixed(bushes[:4]), 5, 15, 103)
	wantCounts(t, most(line[:5]), 6, 24, 182)
}

func TestCountsAtTheirMost(t *testing.T) {
	for _, p := range [][]int{line, star, bushes} {
		wantCounts(t, most(p), 8, 32, 304)
		wantCounts(t, least(p), 8, 8, 88)
	}
}

// rooms tells Room by the brokers, from 1 on, and by Flight, from 1 on.
func rooms() [][]int {
	return [][]int{
		{11, 13, 15, 17}, {16, 22, 28, 34}, {23, 35, 47, 59}, {32, 52, 72, 92},
		{43, 73, 103, 133}, {56, 98, 140, 182}, {71, 127, 183, 239}, {88, 160, 232, 304},
	}
}

// Whatever the shape of the tree and the other numbers are.
func TestCountsOfAllBrokersAndFlights(t *testing.T) {
	for i, row := range rooms() {
		for j, room := range row {
			for _, p := range [][]int{line[:i], star[:i], bushes[:i]} {
				for _, c := range configs(p) {
					c.Flight = j + 1
					wantCounts(t, c, i+1, (i+1)*(j+1), room)
				}
			}
		}
	}
}

// Window, Resend, Queue and Start turn none of the three.
func TestOtherNumbersDoNotCount(t *testing.T) {
	for _, p := range [][]int{alone, pair, three, bushes} {
		for _, c := range configs(p) {
			brokers, flying, room := config.Brokers(c), config.Flying(c), config.Room(c)
			for _, n := range numbers() {
				if n.name == "Flight" {
					continue
				}
				for _, in := range n.inside() {
					d := c
					*n.of(&d) = in
					wantCounts(t, d, brokers, flying, room)
				}
			}
		}
	}
}

// One broker more: Flight events more, and of each event that may be on its
// way one frame more, and one frame for the broker itself.
func TestOneBrokerMore(t *testing.T) {
	for _, p := range [][]int{line, star, bushes} {
		for n := range p {
			for flight := 1; flight <= api.MaxFlight; flight++ {
				c, d := mixed(p[:n]), mixed(p[:n+1])
				c.Flight, d.Flight = flight, flight
				brokers, flying, room := config.Brokers(c), config.Flying(c), config.Room(c)
				wantCounts(t, d, brokers+1, flying+flight, room+flying+flight*(brokers+2)+1)
			}
		}
	}
}

// One event more at a time: one more of each broker, and each of these needs
// a frame for each broker and one beside.
func TestOneEventMore(t *testing.T) {
	for _, p := range rightTrees() {
		for flight := 1; flight < api.MaxFlight; flight++ {
			c, d := mixed(p), mixed(p)
			c.Flight, d.Flight = flight, flight+1
			brokers, flying, room := config.Brokers(c), config.Flying(c), config.Room(c)
			wantCounts(t, d, brokers, flying+brokers, room+brokers*(brokers+1))
		}
	}
}

// R2, R4

// askAll makes each call.
func askAll(c api.Config) {
	config.Check(c)
	config.Brokers(c)
	config.Flying(c)
	config.Room(c)
}

// What is handed in stays as it is, its spare room too.
func TestWhatIsHandedInStays(t *testing.T) {
	for _, p := range append(rightTrees(), wrongTrees()...) {
		whole := append(slices.Clone(p), 0, 1, 77)
		before := slices.Clone(whole)
		for _, c := range append(configs(whole[:len(p)]), api.Config{Parents: whole[:len(p)]}) {
			askAll(c)
			if !slices.Equal(whole, before) {
				t.Fatalf("left %v of %v", whole, before)
			}
		}
	}
}

// Nothing is kept: whatever was asked ahead, and when the Parents that were
// handed in are turned later, the answer is that of the Config as it is now.
func TestNothingIsKept(t *testing.T) {
	p := slices.Clone(line)
	c := most(p)
	for range 3 {
		wantFine(t, c)
		wantCounts(t, c, 8, 32, 304)
		p[6] = 7
		wantRefused(t, c, api.ErrForm)
		p[6] = 0
		wantCounts(t, c, 8, 32, 304)
		wantRefused(t, api.Config{}, api.ErrArg)
		wantCounts(t, least(alone), 1, 1, 11)
		copy(p, line)
	}
}
