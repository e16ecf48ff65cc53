package subs_test

import (
	"math"
	"slices"
	"testing"

	"precentor/api"
	"precentor/subs"
	"precentor/value"
)

// roomy is l anew, with a spare room that is in use, behind each list in it.
func roomy(l []api.Sub) []api.Sub {
	out := make([]api.Sub, 0, len(l)+3)
	for _, s := range l {
		s.Filter = roomyFilter(s.Filter)
		out = append(out, s)
	}
	behind := append(out, sub(1, 0, 77, roomyFilter(nil)...), sub(9, 9, 9, has("behind")))
	return behind[:len(l)]
}

func roomyFilter(f []api.Pred) []api.Pred {
	out := make([]api.Pred, 0, len(f)+3)
	for _, p := range f {
		set := make([]api.Value, 0, len(p.Set)+3)
		set = append(append(set, p.Set...), value.Text("behind"), value.Int(7))
		p.Set = set[:len(p.Set)]
		out = append(out, p)
	}
	behind := append(out, has("behind"), in("behind", value.Text("behind")))
	return behind[:len(f)]
}

// roomyChanges is ch anew, with spare room as roomy has it.
func roomyChanges(ch []api.Change) []api.Change {
	out := make([]api.Change, 0, len(ch)+3)
	for _, c := range ch {
		c.Sub.Filter = roomyFilter(c.Sub.Filter)
		out = append(out, c)
	}
	behind := append(out, gone(1, 2), come(sub(9, 9, 9, has("behind"))))
	return behind[:len(ch)]
}

// changesText tells ch to the bit, spare room too.
func changesText(ch []api.Change) string {
	text := ""
	for _, c := range ch[:cap(ch)] {
		if c.Gone {
			text += "goes "
		}
		text += subText(c.Sub) + " | "
	}
	return text
}

// spoilSub writes over all of s's memory, its spare room too.
func spoilSub(s *api.Sub) {
	for i := range s.Filter[:cap(s.Filter)] {
		p := &s.Filter[:cap(s.Filter)][i]
		for k := range p.Set[:cap(p.Set)] {
			p.Set[:cap(p.Set)][k] = value.Text("spoilt")
		}
		p.Name, p.Test, p.V, p.W = "spoilt", 99, value.Text("spoilt"), value.Text("spoilt")
	}
	s.Client, s.Broker, s.Num = -77, -77, -77
}

// spoil writes over all of l's memory, its spare room too.
func spoil(l []api.Sub) {
	for i := range l[:cap(l)] {
		spoilSub(&l[:cap(l)][i])
	}
}

// spoilChanges writes over all of ch's memory, its spare room too.
func spoilChanges(ch []api.Change) {
	for i := range ch[:cap(ch)] {
		spoilSub(&ch[:cap(ch)][i].Sub)
	}
}

// inputs are lists with Filters, with Sets; of some two Subs share one Filter,
// or two tests one Set.
func inputs() [][]api.Sub {
	set := []api.Value{value.Int(1), value.Float(math.Copysign(0, -1)), value.Text("x")}
	shared := []api.Pred{in("a", set...), in("b", set[:2]...), has("c")}
	return [][]api.Sub{
		nil, rising(), scattered(),
		list(sub(1, 0, 1, shared...), sub(1, 0, 2, shared...), sub(3, 7, 1, shared[1:]...), sub(3, 7, 2, in("d", set...))),
		list(sub(3, 0, 1, in("d", set...)), sub(1, 5, 1, has("a"), in("b", set[2:]...)), sub(3, 1, 1, shared[:1]...)),
	}
}

// orders are changes that go and come, in place, between, last; of some two
// share one Filter.
func orders() [][]api.Change {
	shared := []api.Pred{in("a", value.Int(5), value.Float(math.NaN())), more("b", 2)}
	a, b, c := sub(1, 0, 1, shared...), sub(2, 0, 1, shared...), sub(6, 0, 1<<62, shared[:1]...)
	return [][]api.Change{
		nil, {gone(1, 1)}, {gone(3, 1)}, {gone(9, 9)}, {come(a)}, {come(b)}, {come(c)},
		{come(a), come(b), come(c)}, {gone(3, 1), come(b), gone(1, 1), come(a)}, {come(a), gone(1, 1)},
		{come(b), come(b), gone(1, 2), gone(5, 2)}, {{Gone: true, Sub: sub(1, 0, 1, shared...)}, come(c)},
	}
}

// R2

// What is handed in stays, the list that is spread and all spare room too.
func TestWhatIsHandedInStays(t *testing.T) {
	for _, plain := range inputs() {
		l := roomy(plain)
		before := listText(l)
		stays := func(call string) {
			t.Helper()
			if listText(l) != before {
				t.Fatalf("%s left %s of %s", call, listText(l), before)
			}
		}
		subs.Right(l)
		stays("Right")
		subs.Same(l, anew(l))
		subs.Same(anew(l), l)
		subs.Same(l, l)
		stays("Same")
		for client := range 7 {
			subs.Of(l, client)
			stays("Of")
			subs.Has(l, client, 2)
			stays("Has")
		}
		for _, asked := range [][]int{{}, {5, 3, 5, 1}, {2, 1, 9, 9}} {
			room := append(slices.Clone(asked), 6, 3, -1)
			kept := slices.Clone(room)
			subs.Brokers(l, room[:len(asked)]...)
			stays("Brokers")
			if !slices.Equal(room, kept) {
				t.Fatalf("Brokers left %v of %v", room, kept)
			}
		}
		for _, few := range orders() {
			ch := roomyChanges(few)
			kept := changesText(ch)
			subs.Apply(l, ch...)
			stays("Apply")
			if changesText(ch) != kept {
				t.Fatalf("Apply left %s of %s", changesText(ch), kept)
			}
		}
	}
}

// What is told shares nothing with what was handed in: neither is seen in the
// other when it is written over.
func TestApplyIsNewMemory(t *testing.T) {
	for _, plain := range inputs() {
		for _, few := range orders() {
			l, ch := roomy(plain), roomyChanges(few)
			before, kept := listText(l), changesText(ch)
			now, other := subs.Apply(l, ch...), subs.Apply(l, ch...)
			want := anew(now)
			spoil(now)
			if listText(l) != before || changesText(ch) != kept {
				t.Errorf("what is written to the answer of Apply(%+v, %+v) stands in what was handed in", plain, few)
			}
			if !alike(other, want) {
				t.Errorf("what is written to the answer of Apply(%+v, %+v) stands in another one", plain, few)
			}
			spoil(l)
			spoilChanges(ch)
			if !alike(other, want) {
				t.Errorf("what is written to what was handed in stands in the answer of Apply(%+v, %+v)", plain, few)
			}
		}
	}
}

func TestOfIsNewMemory(t *testing.T) {
	for _, plain := range inputs() {
		for client := range 7 {
			l := roomy(plain)
			before := listText(l)
			its, other := subs.Of(l, client), subs.Of(l, client)
			want := anew(its)
			spoil(its)
			if listText(l) != before {
				t.Errorf("what is written to the answer of Of(%+v, %d) stands in what was handed in", plain, client)
			}
			if !alike(other, want) {
				t.Errorf("what is written to the answer of Of(%+v, %d) stands in another one", plain, client)
			}
			spoil(l)
			if !alike(other, want) {
				t.Errorf("what is written to what was handed in stands in the answer of Of(%+v, %d)", plain, client)
			}
		}
	}
}

func TestBrokersIsNewMemory(t *testing.T) {
	l, asked := roomy(scattered()), append(clients(5, 2), 7, 7)[:2]
	before := listText(l)
	at, other := subs.Brokers(l, asked...), subs.Brokers(l, asked...)
	for i := range at[:cap(at)] {
		at[:cap(at)][i] = -77
	}
	if listText(l) != before || !slices.Equal(asked[:4], clients(5, 2, 7, 7)) {
		t.Error("what is written to the answer of Brokers stands in what was handed in")
	}
	spoil(l)
	clear(asked[:4])
	if !slices.Equal(other, clients(0, 1, 3, 7)) {
		t.Errorf("the answer of Brokers is %v by now", other)
	}
}

// apart asks that no two lists of an answer share memory: what is written to
// one Sub, or one test, is not seen at another. ask tells that answer anew.
func apart(t *testing.T, ask func() []api.Sub) {
	t.Helper()
	want := anew(ask())
	for i := range want {
		l := ask()
		spoilSub(&l[i])
		for k := range want {
			if k != i && !alike(l[k:k+1], want[k:k+1]) {
				t.Errorf("what is written to the place %d of %+v stands at %d", i, want, k)
			}
		}
		for j := range want[i].Filter {
			l = ask()
			f := l[i].Filter
			for n := range f[j].Set[:cap(f[j].Set)] {
				f[j].Set[:cap(f[j].Set)][n] = value.Text("spoilt")
			}
			f[j] = want[i].Filter[j]
			if !alike(l, want) {
				t.Errorf("what is written to the Set %d of the place %d of %+v stands beside it", j, i, want)
			}
		}
	}
}

func TestNoTwoListsOfAnAnswerShareMemory(t *testing.T) {
	for _, plain := range inputs() {
		for _, few := range orders() {
			apart(t, func() []api.Sub { return subs.Apply(roomy(plain), roomyChanges(few)...) })
			apart(t, func() []api.Sub { return subs.Apply(plain, few...) })
		}
		for client := range 7 {
			apart(t, func() []api.Sub { return subs.Of(plain, client) })
		}
	}
	// One and the same several times.
	s := sub(1, 0, 1, in("a", value.Int(1)), in("b", value.Int(1)))
	apart(t, func() []api.Sub { return subs.Of(list(s, s, s), 1) })
	apart(t, func() []api.Sub { return subs.Apply(list(s, s, s)) })
	other := s
	other.Num = 2
	apart(t, func() []api.Sub { return subs.Apply(list(s), come(other)) })
}

// What stands behind an answer, in its spare room, is nobody's list.
func TestNothingStandsBehindAnAnswer(t *testing.T) {
	for _, plain := range inputs() {
		answers := [][]api.Sub{subs.Of(plain, 1), subs.Of(plain, 5), subs.Apply(plain)}
		for _, few := range orders() {
			answers = append(answers, subs.Apply(plain, few...))
		}
		for _, l := range answers {
			for _, s := range l[:cap(l)][len(l):] {
				if len(s.Filter[:cap(s.Filter)]) != 0 {
					t.Errorf("%+v stands behind %+v", s, l)
				}
			}
		}
	}
}

// R1, R4

// Nothing is kept: whatever was asked ahead, the answer is the same again.
func TestTheSameAnswersAgain(t *testing.T) {
	for range 3 {
		for _, l := range inputs() {
			right, five, at := subs.Right(l), subs.Of(l, 5), subs.Brokers(l, 5, 1)
			subs.Apply(l, gone(5, 2), come(sub(5, 2, 2)), come(sub(1, 2, 2)))
			wantRight(t, l, right)
			wantOf(t, l, 5, five...)
			wantBrokers(t, l, clients(5, 1), at...)
			wantBrokers(t, l, clients(1, 5, 1), at...)
		}
	}
}

// Many of them, though there may not be as many: each call ends.
func TestOfVeryMany(t *testing.T) {
	const n = 20_000
	var up, down []api.Sub
	for i := range n {
		up = append(up, sub(i, i%8, 1))
		down = append(down, sub(n-i, i%8, 1))
	}
	wantRight(t, up, false)
	wantRight(t, down, false)
	wantSame(t, up, down, false)
	wantSame(t, up, anew(up), true)
	wantHas(t, up, n-1, 1, true)
	wantHas(t, down, 0, 1, false)
	wantOf(t, down, 1, down[n-1])
	wantBrokers(t, up, clients(9, 8, 17), 0, 1)
	wantApply(t, up, changes(come(sub(n, 0, 0)), gone(0, 1)), append(anew(up[1:]), sub(n, 0, 0))...)
}
