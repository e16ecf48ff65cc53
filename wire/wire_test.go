package wire_test

import (
	"encoding/binary"
	"math"
	"slices"
	"strings"
	"testing"

	"precentor/api"
	"precentor/value"
	"precentor/wire"
)

const (
	lowest  = math.MinInt
	highest = math.MaxInt
	oneNaN  = 0x7ff8000000000000
)

var (
	negative = math.Copysign(0, -1)
	nan      = math.NaN()
	tooLong  = value.Text(strings.Repeat("x", api.MaxText+1))
)

func num(n int64) api.Value  { return value.Int(n) }
func fl(x float64) api.Value { return value.Float(x) }
func txt(s string) api.Value { return value.Text(s) }
func truth(b bool) api.Value { return value.Bool(b) }

// test makes one that needs a V.
func test(name string, kind int, v api.Value) api.Pred {
	return api.Pred{Name: name, Test: kind, V: v}
}
func has(name string) api.Pred { return api.Pred{Name: name, Test: api.THas} }
func between(name string, v, w api.Value) api.Pred {
	return api.Pred{Name: name, Test: api.TRange, V: v, W: w}
}
func in(name string, set ...api.Value) api.Pred {
	return api.Pred{Name: name, Test: api.TIn, Set: set}
}

func at(name string, v api.Value) api.Attr { return api.Attr{Name: name, V: v} }

func sub(client, broker, num int, f ...api.Pred) api.Sub {
	return api.Sub{Client: client, Broker: broker, Num: num, Filter: f}
}

// eachTest has one of each of the ten, right, their Names rising.
func eachTest() []api.Pred {
	return []api.Pred{
		has("a"), test("b", api.TIs, num(3)), test("c", api.TNot, fl(2.5)), test("d", api.TLess, txt("abc")),
		test("e", api.TMost, truth(true)), test("f", api.TMore, num(-1)), test("g", api.TLeast, fl(nan)),
		between("h", num(3), txt("z")), test("i", api.TPrefix, txt("")), in("j", num(3), truth(false), fl(0), txt("xyz")),
	}
}

// event has two of all that an event has a list of.
func event() api.Event {
	return api.Event{
		Client: 3, Broker: 4, Seq: 5, Epoch: 6, At: 7,
		Attrs:  []api.Attr{at("ab", num(-2)), at("cd", txt("xyz"))},
		Stamps: []api.Stamp{{Atom: 1, N: 8}, {Atom: 300, N: 9}},
	}
}

// change has a test of each sort of need, as far as three go.
func change() api.Change {
	return api.Change{Sub: sub(2, 3, 4, test("ab", api.TMore, num(5)), between("ab", fl(1), num(9)), in("cd", txt("xy"), truth(true)))}
}

func subs() []api.Sub {
	return []api.Sub{sub(2, 2, 3, has("ab")), sub(2, 2, 7), sub(3, 0, 9, test("ab", api.TPrefix, txt("xy")), has("cd"))}
}

// eachKind has a right frame of each Kind, at the place of that; none at 0.
func eachKind() []api.Frame {
	return []api.Frame{
		{},
		{Kind: api.FChange, Change: change()},
		{Kind: api.FStop, Epoch: 3},
		{Kind: api.FQuiet, Epoch: 4},
		{Kind: api.FOpen, Epoch: 5, Subs: subs()},
		{Kind: api.FRise, To: 6, Event: event()},
		{Kind: api.FFall, Event: event()},
		{Kind: api.FPassed, To: 1, Client: 2, Seq: 3},
		{Kind: api.FDone, To: 4, Client: 5, Seq: 6, From: 7},
	}
}

// parts lays a frame, right or not, as 8.2 says, part by part.
type parts [][]byte

func (p *parts) nats(ns ...int) {
	for _, n := range ns {
		*p = append(*p, binary.AppendUvarint(nil, uint64(n)))
	}
}

func (p *parts) text(s string) {
	p.nats(len(s))
	*p = append(*p, []byte(s))
}

func (p *parts) truth(b bool) {
	if b {
		p.nats(1)
	} else {
		p.nats(0)
	}
}

func (p *parts) eight(w uint64) {
	*p = append(*p, binary.BigEndian.AppendUint64(nil, w))
}

func (p *parts) value(v api.Value) {
	p.nats(v.Kind)
	switch {
	case v.Kind == api.KInt:
		p.eight(uint64(v.N))
	case v.Kind == api.KFloat && v.X != v.X:
		p.eight(oneNaN)
	case v.Kind == api.KFloat && v.X == 0:
		p.eight(0)
	case v.Kind == api.KFloat:
		p.eight(math.Float64bits(v.X))
	case v.Kind == api.KText:
		p.text(v.S)
	case v.Kind == api.KBool:
		p.truth(v.B)
	}
}

func (p *parts) event(e api.Event) {
	p.nats(e.Client, e.Broker, e.Seq, e.Epoch, e.At, len(e.Attrs))
	for _, a := range e.Attrs {
		p.text(a.Name)
		p.value(a.V)
	}
	p.nats(len(e.Stamps))
	for _, s := range e.Stamps {
		p.nats(s.Atom, s.N)
	}
}

func (p *parts) sub(s api.Sub) {
	p.nats(s.Client, s.Broker, s.Num, len(s.Filter))
	for _, t := range s.Filter {
		p.text(t.Name)
		p.nats(t.Test)
		if t.Test > api.THas && t.Test < api.TIn {
			p.value(t.V)
		}
		if t.Test == api.TRange {
			p.value(t.W)
		}
		if t.Test == api.TIn {
			p.nats(len(t.Set))
			for _, v := range t.Set {
				p.value(v)
			}
		}
	}
}

func partsOf(f api.Frame) parts {
	p := &parts{}
	p.nats(f.Kind)
	switch f.Kind {
	case api.FChange:
		p.truth(f.Change.Gone)
		p.sub(f.Change.Sub)
	case api.FStop, api.FQuiet:
		p.nats(f.Epoch)
	case api.FOpen:
		p.nats(f.Epoch, len(f.Subs))
		for _, s := range f.Subs {
			p.sub(s)
		}
	case api.FRise:
		p.nats(f.To)
		p.event(f.Event)
	case api.FFall:
		p.event(f.Event)
	case api.FPassed:
		p.nats(f.To, f.Client, f.Seq)
	case api.FDone:
		p.nats(f.To, f.Client, f.Seq, f.From)
	}
	return *p
}

func bytesOf(f api.Frame) []byte { return slices.Concat(partsOf(f)...) }

// alikeValue tells whether a and b are the same to the bit, each NaN being one.
func alikeValue(a, b api.Value) bool {
	both := a.X != a.X && b.X != b.X
	return a.Kind == b.Kind && a.N == b.N && a.S == b.S && a.B == b.B &&
		(both || math.Float64bits(a.X) == math.Float64bits(b.X))
}

func alikeAttr(a, b api.Attr) bool { return a.Name == b.Name && alikeValue(a.V, b.V) }

func alikeTest(a, b api.Pred) bool {
	return a.Name == b.Name && a.Test == b.Test && alikeValue(a.V, b.V) && alikeValue(a.W, b.W) &&
		slices.EqualFunc(a.Set, b.Set, alikeValue)
}

func alikeSub(a, b api.Sub) bool {
	return a.Client == b.Client && a.Broker == b.Broker && a.Num == b.Num &&
		slices.EqualFunc(a.Filter, b.Filter, alikeTest)
}

func alikeEvent(a, b api.Event) bool {
	return a.Client == b.Client && a.Broker == b.Broker && a.Seq == b.Seq && a.Epoch == b.Epoch && a.At == b.At &&
		slices.EqualFunc(a.Attrs, b.Attrs, alikeAttr) && slices.Equal(a.Stamps, b.Stamps)
}

func alike(a, b api.Frame) bool {
	return a.Kind == b.Kind && a.To == b.To && a.From == b.From && a.Client == b.Client && a.Seq == b.Seq &&
		a.Epoch == b.Epoch && alikeEvent(a.Event, b.Event) && a.Change.Gone == b.Change.Gone &&
		alikeSub(a.Change.Sub, b.Change.Sub) && slices.EqualFunc(a.Subs, b.Subs, alikeSub)
}

// twin is f again, all of its lists too, each with room behind it.
func twin(f api.Frame) api.Frame {
	f.Event.Attrs = roomy(f.Event.Attrs)
	f.Event.Stamps = roomy(f.Event.Stamps)
	f.Change.Sub = twinSub(f.Change.Sub)
	f.Subs = roomy(f.Subs)
	for i, s := range f.Subs {
		f.Subs[i] = twinSub(s)
	}
	return f
}

func twinSub(s api.Sub) api.Sub {
	s.Filter = roomy(s.Filter)
	for i := range s.Filter {
		s.Filter[i].Set = roomy(s.Filter[i].Set)
	}
	return s
}

func roomy[T any](l []T) []T {
	return append(make([]T, 0, len(l)+2), l...)
}

// turned is a twin of f in which one thing is another.
func turned(f api.Frame, turn func(f *api.Frame)) api.Frame {
	f = twin(f)
	turn(&f)
	return f
}

func wantRight(t *testing.T, f api.Frame, want bool) {
	t.Helper()
	if right := wire.Right(f); right != want {
		t.Errorf("Right(%+v): %t; want %t", f, right, want)
	}
	if b := wire.Lay(f); (len(b) > 0) != want {
		t.Errorf("Lay(%+v): %x; right: %t", f, b, want)
	}
}

// number is one that frames of these Kinds have, from low to high.
type number struct {
	name      string
	at        func(f *api.Frame) *int
	low, high int
	kinds     []int
}

// numbers are all those that a frame may have, but for those of Stamps and
// Subs behind others.
func numbers() []number {
	rises, passes := []int{api.FRise, api.FFall}, []int{api.FPassed, api.FDone}
	last := api.MaxBrokers - 1
	return []number{
		{"To", func(f *api.Frame) *int { return &f.To }, 0, last, []int{api.FRise, api.FPassed, api.FDone}},
		{"From", func(f *api.Frame) *int { return &f.From }, 0, last, []int{api.FDone}},
		{"Client", func(f *api.Frame) *int { return &f.Client }, 1, api.MaxClients, passes},
		{"Seq", func(f *api.Frame) *int { return &f.Seq }, 1, api.MaxNumber, passes},
		{"Epoch", func(f *api.Frame) *int { return &f.Epoch }, 0, api.MaxNumber, []int{api.FStop, api.FQuiet, api.FOpen}},
		{"Event.Client", func(f *api.Frame) *int { return &f.Event.Client }, 1, api.MaxClients, rises},
		{"Event.Broker", func(f *api.Frame) *int { return &f.Event.Broker }, 0, last, rises},
		{"Event.Seq", func(f *api.Frame) *int { return &f.Event.Seq }, 1, api.MaxNumber, rises},
		{"Event.Epoch", func(f *api.Frame) *int { return &f.Event.Epoch }, 0, api.MaxNumber, rises},
		{"Event.At", func(f *api.Frame) *int { return &f.Event.At }, 0, api.MaxNumber, rises},
		{"Change.Sub.Client", func(f *api.Frame) *int { return &f.Change.Sub.Client }, 1, api.MaxClients, []int{api.FChange}},
		{"Change.Sub.Broker", func(f *api.Frame) *int { return &f.Change.Sub.Broker }, 0, last, []int{api.FChange}},
		{"Change.Sub.Num", func(f *api.Frame) *int { return &f.Change.Sub.Num }, 1, api.MaxNumber, []int{api.FChange}},
	}
}

// listed are those of Stamps and Subs.
func listed() []number {
	rises, opens := []int{api.FRise, api.FFall}, []int{api.FOpen}
	return []number{
		{"the last Atom", func(f *api.Frame) *int { return &f.Event.Stamps[1].Atom }, 2, api.MaxNumber, rises},
		{"an Atom's N", func(f *api.Frame) *int { return &f.Event.Stamps[0].N }, 1, api.MaxNumber, rises},
		{"the last Atom's N", func(f *api.Frame) *int { return &f.Event.Stamps[1].N }, 1, api.MaxNumber, rises},
		{"the last Sub's Client", func(f *api.Frame) *int { return &f.Subs[2].Client }, 2, api.MaxClients, opens},
		{"a Sub's Broker", func(f *api.Frame) *int { return &f.Subs[0].Broker }, 0, api.MaxBrokers - 1, opens},
		{"the last Sub's Broker", func(f *api.Frame) *int { return &f.Subs[2].Broker }, 0, api.MaxBrokers - 1, opens},
		{"the second Sub's Num", func(f *api.Frame) *int { return &f.Subs[1].Num }, 4, api.MaxNumber, opens},
		{"the last Sub's Num", func(f *api.Frame) *int { return &f.Subs[2].Num }, 1, api.MaxNumber, opens},
	}
}

// 8.1

func TestRightOfEachKind(t *testing.T) {
	// What one of another Kind has it may not have, unless it is zero there.
	right := [][]int{{2, 3, 4}, {1}, {2, 3, 4}, {2, 3, 4}, {4}, {5}, {5, 6}, {7, 8}, {8}}
	for kind, f := range eachKind() {
		wantRight(t, f, kind > 0)
		for other := -1; other <= api.FDone+2; other++ {
			wantRight(t, turned(f, func(f *api.Frame) { f.Kind = other }), slices.Contains(right[kind], other))
		}
	}
}

func TestRightOfNoKind(t *testing.T) {
	for _, kind := range []int{lowest, -8, -1, 0, 9, 10, 128 + 2, 256 + 2, 1<<32 + 2, highest} {
		wantRight(t, api.Frame{Kind: kind}, false)
		wantRight(t, api.Frame{Kind: kind, Epoch: 1}, false)
		wantRight(t, api.Frame{Kind: kind, Event: event()}, false)
	}
}

func TestRightOfNumbers(t *testing.T) {
	all := eachKind()
	for _, n := range append(numbers(), listed()...) {
		for _, kind := range n.kinds {
			with := func(x int) api.Frame {
				return turned(all[kind], func(f *api.Frame) { *n.at(f) = x })
			}
			for _, x := range []int{n.low, n.low + 1, n.high - 1, n.high} {
				if !wire.Right(with(x)) {
					t.Errorf("%s of Kind %d: %d is not right", n.name, kind, x)
				}
			}
			for _, x := range []int{lowest, n.low - 1, n.high + 1, highest} {
				if wire.Right(with(x)) {
					t.Errorf("%s of Kind %d: %d is right", n.name, kind, x)
				}
			}
		}
	}
}

// What stands at the beginning of a list has a bound of its own.
func TestRightOfTheFirstOfAList(t *testing.T) {
	for _, atom := range []int{0, 1, 300, api.MaxNumber} {
		wantRight(t, fall(withStamps(api.Stamp{Atom: atom, N: 1})), true)
	}
	for _, atom := range []int{lowest, -1, api.MaxNumber + 1, highest} {
		wantRight(t, fall(withStamps(api.Stamp{Atom: atom, N: 1})), false)
	}
	for _, client := range []int{1, 2, api.MaxClients} {
		wantRight(t, open(sub(client, 0, 1)), true)
	}
	for _, client := range []int{lowest, -1, 0, api.MaxClients + 1, highest} {
		wantRight(t, open(sub(client, 0, 1)), false)
	}
	for _, n := range []int{1, 2, api.MaxNumber} {
		wantRight(t, open(sub(1, 0, n)), true)
	}
	for _, n := range []int{lowest, -1, 0, api.MaxNumber + 1, highest} {
		wantRight(t, open(sub(1, 0, n)), false)
	}
}

// stray is something that a frame of these Kinds has; the others do not.
type stray struct {
	name  string
	put   func(f *api.Frame)
	kinds []int
}

func strays() []stray {
	var all []stray
	for _, n := range numbers() {
		for _, x := range []int{1, -1, highest} {
			all = append(all, stray{n.name, func(f *api.Frame) { *n.at(f) = x }, n.kinds})
		}
	}
	rises, changes := []int{api.FRise, api.FFall}, []int{api.FChange}
	return append(all,
		stray{"Event.Attrs", func(f *api.Frame) { f.Event.Attrs = event().Attrs }, rises},
		stray{"Event.Attrs of a zero one", func(f *api.Frame) { f.Event.Attrs = make([]api.Attr, 1) }, rises},
		stray{"Event.Stamps", func(f *api.Frame) { f.Event.Stamps = event().Stamps }, rises},
		stray{"Event.Stamps of a zero one", func(f *api.Frame) { f.Event.Stamps = make([]api.Stamp, 1) }, rises},
		stray{"Event", func(f *api.Frame) { f.Event = event() }, rises},
		stray{"Change.Gone", func(f *api.Frame) { f.Change.Gone = true }, changes},
		stray{"Change.Sub.Filter", func(f *api.Frame) { f.Change.Sub.Filter = change().Sub.Filter }, changes},
		stray{"Change.Sub.Filter of a zero one", func(f *api.Frame) { f.Change.Sub.Filter = make([]api.Pred, 1) }, changes},
		stray{"Change", func(f *api.Frame) { f.Change = change() }, changes},
		stray{"Subs", func(f *api.Frame) { f.Subs = subs() }, []int{api.FOpen}},
		stray{"Subs of a zero one", func(f *api.Frame) { f.Subs = make([]api.Sub, 1) }, []int{api.FOpen}},
	)
}

func TestRightOfWhatItsKindDoesNotHave(t *testing.T) {
	for kind, f := range eachKind() {
		for _, s := range strays() {
			if slices.Contains(s.kinds, kind) {
				continue
			}
			g := turned(f, s.put)
			if wire.Right(g) || len(wire.Lay(g)) != 0 {
				t.Errorf("a frame of Kind %d is right with %s: %+v", kind, s.name, g)
			}
		}
	}
}

// A list with nothing in it is none, be it nil or not.
func TestRightOfEmptyLists(t *testing.T) {
	for kind, f := range eachKind() {
		f = twin(f)
		if kind != api.FRise && kind != api.FFall {
			f.Event = api.Event{Attrs: []api.Attr{}, Stamps: []api.Stamp{}}
		}
		if kind != api.FChange {
			f.Change.Sub.Filter = []api.Pred{}
		}
		if kind != api.FOpen {
			f.Subs = []api.Sub{}
		}
		wantRight(t, f, kind > 0)
	}
	wantRight(t, fall(api.Event{Client: 1, Seq: 1}), true)
	wantRight(t, api.Frame{Kind: api.FChange, Change: api.Change{Sub: sub(1, 0, 1)}}, true)
	wantRight(t, open(), true)
}

func rise(e api.Event) api.Frame { return api.Frame{Kind: api.FRise, To: 2, Event: e} }
func fall(e api.Event) api.Frame { return api.Frame{Kind: api.FFall, Event: e} }
func open(l ...api.Sub) api.Frame {
	return api.Frame{Kind: api.FOpen, Epoch: 5, Subs: l}
}
func come(f ...api.Pred) api.Frame {
	return api.Frame{Kind: api.FChange, Change: api.Change{Sub: sub(2, 3, 4, f...)}}
}
func gone(f ...api.Pred) api.Frame {
	return api.Frame{Kind: api.FChange, Change: api.Change{Gone: true, Sub: sub(2, 3, 4, f...)}}
}

func withAttrs(l ...api.Attr) api.Event {
	e := event()
	e.Attrs = l
	return e
}

func withStamps(l ...api.Stamp) api.Event {
	e := event()
	e.Stamps = l
	return e
}

// stamps are n, rising from an atom on by a step.
func stamps(n, atom, step int) []api.Stamp {
	l := make([]api.Stamp, n)
	for i := range l {
		l[i] = api.Stamp{Atom: atom + i*step, N: 1 + i%3}
	}
	return l
}

// many are n attributes, rising.
func many(n int) []api.Attr {
	l := make([]api.Attr, n)
	for i := range l {
		l[i] = at("a"+string(rune('a'+i)), num(int64(i)))
	}
	return l
}

// wantEvent asks the same of both Kinds that have an event.
func wantEvent(t *testing.T, e api.Event, want bool) {
	t.Helper()
	wantRight(t, rise(e), want)
	wantRight(t, fall(e), want)
}

func TestRightOfAttrs(t *testing.T) {
	wantEvent(t, withAttrs(), true)
	wantEvent(t, withAttrs(at("z", num(1))), true)
	wantEvent(t, withAttrs(at("abcdef", txt(strings.Repeat("x", api.MaxText)))), true)
	wantEvent(t, withAttrs(at("a", fl(nan)), at("aa", fl(negative)), at("b", truth(false))), true)
	wantEvent(t, withAttrs(many(api.MaxAttrs)...), true)
	wantEvent(t, withAttrs(many(api.MaxAttrs+1)...), false)
	for _, name := range []string{"", "abcdefg", "A", "a b", "\xff", "a\x00"} {
		wantEvent(t, withAttrs(at(name, num(1))), false)
	}
	wantEvent(t, withAttrs(at("b", num(1)), at("a", num(2))), false)
	wantEvent(t, withAttrs(at("a", num(1)), at("a", num(1))), false)
	for _, v := range []api.Value{{}, {Kind: 5}, {Kind: -1}, {Kind: api.KInt, S: "x"}, {Kind: api.KText, B: true}, tooLong} {
		wantEvent(t, withAttrs(at("a", v)), false)
		wantEvent(t, withAttrs(at("a", num(1)), at("b", v)), false)
	}
}

func TestRightOfStamps(t *testing.T) {
	wantEvent(t, withStamps(), true)
	wantEvent(t, withStamps(stamps(api.MaxStamps, 0, 1)...), true)
	wantEvent(t, withStamps(stamps(api.MaxStamps, 7, 1<<40)...), true)
	wantEvent(t, withStamps(stamps(api.MaxStamps+1, 0, 1)...), false)
	wantEvent(t, withStamps(stamps(1<<16, 0, 1)...), false)
	wantEvent(t, withStamps(stamps(2, 5, 1)...), true)
	wantEvent(t, withStamps(stamps(2, 5, 0)...), false)
	wantEvent(t, withStamps(stamps(2, 5, -1)...), false)
	wantEvent(t, withStamps(stamps(9, 0, 1)...), true)
	for i := range 8 {
		l := stamps(9, 0, 1)
		l[i+1].Atom = l[i].Atom
		wantEvent(t, withStamps(l...), false)
	}
	wantEvent(t, withStamps(api.Stamp{Atom: 1, N: 9}, api.Stamp{Atom: 3, N: 4}, api.Stamp{Atom: 2, N: 5}), false)
	// The numbers that atoms gave need not rise.
	wantEvent(t, withStamps(api.Stamp{Atom: 1, N: 9}, api.Stamp{Atom: 2, N: 9}, api.Stamp{Atom: 3, N: 4}), true)
}

// wrongFilters are some that are not right, each for a reason of its own.
func wrongFilters() [][]api.Pred {
	return [][]api.Pred{
		{{}}, {{Name: "a"}}, {{Name: "a", Test: 11}}, {{Name: "a", Test: -1}}, {has("A")}, {has("")}, {has("abcdefg")},
		{{Name: "a", Test: api.THas, V: num(1)}}, {{Name: "a", Test: api.TIs, V: num(1), Set: []api.Value{num(1)}}},
		{test("a", api.TIs, api.Value{})}, {test("a", api.TMore, tooLong)}, {test("a", api.TPrefix, num(1))},
		{between("a", num(1), api.Value{})}, {in("a")}, {in("a", num(1), num(2), num(3), num(4), num(5))}, {in("a", num(1), tooLong)},
		{has("b"), has("a")}, {has("a"), has("b"), has("a")}, {has("a"), has("b"), has("c"), has("d")},
	}
}

func TestRightOfFilters(t *testing.T) {
	right := [][]api.Pred{nil, {}, {has("a"), has("a"), has("b")}, {in("a", num(1), num(2), num(3), num(4))}, change().Sub.Filter}
	for _, p := range eachTest() {
		right = append(right, []api.Pred{p}, []api.Pred{p, p, p})
	}
	for _, f := range right {
		wantRight(t, come(f...), true)
		wantRight(t, open(sub(1, 2, 3, f...), sub(4, 5, 6, f...)), true)
	}
	for _, f := range wrongFilters() {
		wantRight(t, come(f...), false)
		wantRight(t, open(sub(1, 2, 3, f...), sub(4, 5, 6)), false)
		wantRight(t, open(sub(1, 2, 3), sub(4, 5, 6, f...)), false)
	}
}

func TestRightOfAChangeThatIsGone(t *testing.T) {
	wantRight(t, gone(), true)
	wantRight(t, come(), true)
	wantRight(t, turned(gone(), func(f *api.Frame) { f.Change.Sub.Filter = []api.Pred{} }), true)
	for _, p := range eachTest() {
		wantRight(t, gone(p), false)
		wantRight(t, come(p), true)
	}
	wantRight(t, gone(change().Sub.Filter...), false)
	for _, s := range []api.Sub{sub(0, 0, 1), sub(7, 0, 1), sub(1, 8, 1), sub(1, -1, 1), sub(1, 0, 0)} {
		wantRight(t, api.Frame{Kind: api.FChange, Change: api.Change{Gone: true, Sub: s}}, false)
	}
}

// allSubs are three of each client, and so many more of the last one.
func allSubs(more int) []api.Sub {
	var l []api.Sub
	for client := 1; client <= api.MaxClients; client++ {
		for n := range api.MaxSubs {
			l = append(l, sub(client, client%api.MaxBrokers, 10*n+1))
		}
	}
	for n := range more {
		l = append(l, sub(api.MaxClients, 0, 100+n))
	}
	return l
}

func TestRightOfManySubs(t *testing.T) {
	wantRight(t, open(allSubs(0)...), true)
	wantRight(t, open(allSubs(1)...), false)
	wantRight(t, open(allSubs(1)[1:]...), true)
	wantRight(t, open(allSubs(1<<16)...), false)
	// How many one client has is not asked here.
	wantRight(t, open(allSubs(12)[12:]...), true)
}

func TestRightOfSubsThatDoNotRise(t *testing.T) {
	wantRight(t, open(sub(1, 5, 1), sub(1, 0, 2), sub(2, 3, 1), sub(2, 3, 9)), true)
	wantRight(t, open(sub(1, 0, 9), sub(2, 0, 8), sub(3, 0, 7)), true)
	wantRight(t, open(sub(1, 0, 9), sub(3, 0, 9)), true)
	// By Num.
	wantRight(t, open(sub(1, 0, 1), sub(1, 0, 1)), false)
	wantRight(t, open(sub(1, 0, 1), sub(1, 1, 1)), false)
	wantRight(t, open(sub(1, 0, 2), sub(1, 0, 1)), false)
	wantRight(t, open(sub(1, 0, 1), sub(2, 0, 4), sub(2, 0, 4)), false)
	wantRight(t, open(sub(1, 0, 1), sub(2, 0, 4), sub(2, 0, 3), sub(3, 0, 1)), false)
	// By Client.
	wantRight(t, open(sub(2, 0, 1), sub(1, 0, 1)), false)
	wantRight(t, open(sub(2, 0, 1), sub(1, 0, 2)), false)
	wantRight(t, open(sub(1, 0, 1), sub(3, 0, 1), sub(2, 0, 9)), false)
}
