package subs_test

import (
	"math"
	"slices"
	"testing"

	"precentor/api"
	"precentor/subs"
)

// wantOf asks for just these, in that order.
func wantOf(t *testing.T, l []api.Sub, client int, want ...api.Sub) {
	t.Helper()
	if its := subs.Of(l, client); !alike(its, want) {
		t.Errorf("Of(%+v, %d): %+v; want %+v", l, client, its, want)
	}
}

func wantHas(t *testing.T, l []api.Sub, client, num int, want bool) {
	t.Helper()
	if has := subs.Has(l, client, num); has != want {
		t.Errorf("Has(%+v, %d, %d): %t; want %t", l, client, num, has, want)
	}
}

func wantBrokers(t *testing.T, l []api.Sub, clients []int, want ...int) {
	t.Helper()
	if at := subs.Brokers(l, clients...); !slices.Equal(at, want) {
		t.Errorf("Brokers(%+v, %v): %v; want %v", l, clients, at, want)
	}
}

// clients is a list of these.
func clients(c ...int) []int { return c }

// rising is one that may be; scattered is one that does not rise, with several
// of one Client and Num, at Brokers that do not rise and come several times.
func rising() []api.Sub {
	return list(sub(1, 4, 2, has("a")), sub(1, 4, 7), sub(3, 0, 1, more("b", 2)), sub(4, 4, 1), sub(6, 2, 1<<62))
}

func scattered() []api.Sub {
	return list(sub(5, 7, 2, has("a")), sub(2, 3, 9), sub(5, 1, 2), sub(5, 7, 1), sub(-1, 9, 0), sub(2, 0, 9, has("b")),
		sub(0, -5, -3), sub(5, 3, 2), sub(math.MaxInt, 1<<40, math.MinInt))
}

// 11.3 Of

func TestOf(t *testing.T) {
	l := rising()
	wantOf(t, l, 1, l[0], l[1])
	wantOf(t, l, 3, l[2])
	wantOf(t, l, 4, l[3])
	wantOf(t, l, 6, l[4])
	for _, client := range []int{0, 2, 5, 7, -1, 1 + 1<<32, math.MinInt, math.MaxInt} {
		wantOf(t, l, client)
	}
	for _, client := range []int{0, 1, 6, -1} {
		wantOf(t, nil, client)
		wantOf(t, list(), client)
		// What stands behind the list is none of it.
		wantOf(t, l[:0], client)
	}
	wantOf(t, l[:1], 1, l[0])
	wantOf(t, l[:1], 3)
}

// All of the client's, as they are and where they are, whatever l is.
func TestOfWhatDoesNotRise(t *testing.T) {
	l := scattered()
	wantOf(t, l, 5, l[0], l[2], l[3], l[7])
	wantOf(t, l, 2, l[1], l[5])
	wantOf(t, l, -1, l[4])
	wantOf(t, l, 0, l[6])
	wantOf(t, l, math.MaxInt, l[8])
	wantOf(t, l, 1)
	wantOf(t, list(l[0], l[0], l[0], l[0], l[0]), 5, l[0], l[0], l[0], l[0], l[0])
	for _, f := range slices.Concat(rightFilters(), wrongFilters()) {
		wantOf(t, list(sub(1, 0, 1, f...), sub(2, 0, 1)), 1, sub(1, 0, 1, f...))
	}
	// By Client alone, not by what else has its number.
	wantOf(t, list(sub(1, 2, 3), sub(3, 1, 2), sub(2, 3, 1)), 2, sub(2, 3, 1))
}

// 11.3 Has

func TestHas(t *testing.T) {
	l := rising()
	for _, s := range l {
		wantHas(t, l, s.Client, s.Num, true)
	}
	for client := -2; client <= 8; client++ {
		for num := -2; num <= 9; num++ {
			there := client == 1 && (num == 2 || num == 7) || client == 3 && num == 1 || client == 4 && num == 1
			wantHas(t, l, client, num, there)
			wantHas(t, nil, client, num, false)
			wantHas(t, list(), client, num, false)
			wantHas(t, l[:0], client, num, false)
		}
	}
	wantHas(t, l, 6, 1<<62-1, false)
	wantHas(t, l, 6, 1, false)
	wantHas(t, l, 1, 2+1<<32, false)
	wantHas(t, l, 1+1<<32, 2, false)
	wantHas(t, l[:4], 6, 1<<62, false)
	wantHas(t, l[:1], 1, 7, false)
}

// Both of one Sub, and nothing hangs on its order, Broker or Filter.
func TestHasOfWhatDoesNotRise(t *testing.T) {
	l := scattered()
	for _, s := range l {
		wantHas(t, l, s.Client, s.Num, true)
	}
	wantHas(t, l, 2, 2, false)
	wantHas(t, l, 5, 9, false)
	wantHas(t, l, 0, 0, false)
	wantHas(t, l, -1, -3, false)
	wantHas(t, l, math.MinInt, math.MaxInt, false)
	wantHas(t, list(sub(1, 5, 2), sub(2, 6, 1)), 1, 1, false)
	wantHas(t, list(sub(1, 5, 2), sub(2, 6, 1)), 2, 2, false)
	wantHas(t, list(sub(1, 5, 2), sub(2, 6, 1)), 1, 5, false)
	wantHas(t, list(sub(1, 5, 2, wrongFilters()[0]...)), 1, 2, true)
	wantHas(t, list(api.Sub{}), 0, 0, true)
}

// 11.3 Brokers

func TestBrokersOfTheExample(t *testing.T) {
	wantBrokers(t, list(sub(1, 4, 1), sub(2, 0, 1), sub(3, 4, 1)), clients(1, 3), 4)
}

func TestBrokersOfNone(t *testing.T) {
	for _, l := range [][]api.Sub{nil, list(), rising(), scattered()} {
		if at := subs.Brokers(l); len(at) != 0 {
			t.Errorf("Brokers(%+v): %v", l, at)
		}
		wantBrokers(t, l, nil)
		wantBrokers(t, l, clients())
		wantBrokers(t, l, clients(1, 3)[:0])
		wantBrokers(t, l[:0], clients(1, 3, 5))
	}
}

func TestBrokersOfOne(t *testing.T) {
	l := rising()
	wantBrokers(t, l, clients(1), 4)
	wantBrokers(t, l, clients(3), 0)
	wantBrokers(t, l, clients(4), 4)
	wantBrokers(t, l, clients(6), 2)
	for _, client := range []int{0, 2, 5, 7, -1, 1 + 1<<32, math.MinInt, math.MaxInt} {
		wantBrokers(t, l, clients(client))
	}
	wantBrokers(t, l[:4], clients(6))
}

func TestBrokersOfSeveral(t *testing.T) {
	l := rising()
	wantBrokers(t, l, clients(1, 4), 4)
	wantBrokers(t, l, clients(1, 3), 0, 4)
	wantBrokers(t, l, clients(3, 1), 0, 4)
	wantBrokers(t, l, clients(6, 1), 2, 4)
	wantBrokers(t, l, clients(6, 3), 0, 2)
	wantBrokers(t, l, clients(6, 4, 3, 1), 0, 2, 4)
	wantBrokers(t, l, clients(1, 2, 3, 4, 5, 6), 0, 2, 4)
	// The same one several times, and some that are not there.
	wantBrokers(t, l, clients(3, 3), 0)
	wantBrokers(t, l, clients(6, 3, 6, 1, 3, 1), 0, 2, 4)
	wantBrokers(t, l, clients(2, 3), 0)
	wantBrokers(t, l, clients(3, 2), 0)
	wantBrokers(t, l, clients(2, 5, 0, -1, 7))
	wantBrokers(t, l, clients(0, 2, 1, 5, 6, 7), 2, 4)
}

func TestBrokersThatDoNotRise(t *testing.T) {
	l := scattered()
	wantBrokers(t, l, clients(5), 1, 3, 7)
	wantBrokers(t, l, clients(2), 0, 3)
	wantBrokers(t, l, clients(2, 5), 0, 1, 3, 7)
	wantBrokers(t, l, clients(5, 2, 5), 0, 1, 3, 7)
	// Of any l: of Clients and Brokers that are none, too.
	wantBrokers(t, l, clients(-1), 9)
	wantBrokers(t, l, clients(0), -5)
	wantBrokers(t, l, clients(math.MaxInt, 0, -1, 2), -5, 0, 3, 9, 1<<40)
	down := list(sub(1, 7, 1), sub(1, 6, 2), sub(2, 5, 1), sub(3, 6, 1), sub(4, 7, 1), sub(5, 0, 1), sub(6, 5, 1))
	wantBrokers(t, down, clients(1, 2, 3, 4, 5, 6), 0, 5, 6, 7)
	wantBrokers(t, down, clients(6, 4), 5, 7)
}

// someClients are lists of Clients to ask for.
func someClients() [][]int {
	return [][]int{nil, {1}, {2}, {3}, {0}, {1, 2}, {2, 1}, {1, 1}, {3, 1, 3}, {1, 2, 3}, {0, 2}}
}

// Of all small lists, held against the words of the chapter.
func TestOfManyIsAsRead(t *testing.T) {
	all := list(sub(1, 0, 1), sub(1, 3, 2), sub(2, 3, 1), sub(2, 1, 1, has("a")), sub(3, 0, 2))
	each(all, 4, func(l []api.Sub) {
		for client := range 5 {
			var its []api.Sub
			nums := make(map[int]int)
			for _, s := range l {
				if s.Client == client {
					its = append(its, s)
					nums[s.Num]++
				}
			}
			wantOf(t, l, client, its...)
			for num := range 4 {
				wantHas(t, l, client, num, nums[num] > 0)
			}
		}
		for _, asked := range someClients() {
			var want []int
			for broker := range api.MaxBrokers {
				if slices.ContainsFunc(l, func(s api.Sub) bool { return s.Broker == broker && slices.Contains(asked, s.Client) }) {
					want = append(want, broker)
				}
			}
			wantBrokers(t, l, asked, want...)
		}
	})
}
