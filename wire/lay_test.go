package wire_test

import (
	"math"
	"slices"
	"testing"

	"precentor/api"
	"precentor/wire"
)

// row puts bytes and texts one behind the other.
func row(l ...any) []byte {
	var b []byte
	for _, x := range l {
		switch x := x.(type) {
		case int:
			b = append(b, byte(x))
		case string:
			b = append(b, x...)
		case []byte:
			b = append(b, x...)
		}
	}
	return b
}

func wantLay(t *testing.T, f api.Frame, want ...any) {
	t.Helper()
	if b := wire.Lay(f); !slices.Equal(b, row(want...)) {
		t.Errorf("Lay(%+v): %x; want %x", f, b, row(want...))
	}
}

// ofInt, ofFloat are the eight bytes of some.
var (
	five     = []byte{0, 0, 0, 0, 0, 0, 0, 5}
	minusTwo = []byte{0xff, 0xff, 0xff, 0xff, 0xff, 0xff, 0xff, 0xfe}
	half     = []byte{0x3f, 0xe0, 0, 0, 0, 0, 0, 0}
	ofNaN    = []byte{0x7f, 0xf8, 0, 0, 0, 0, 0, 0}
	nought   = []byte{0, 0, 0, 0, 0, 0, 0, 0}
	most     = []byte{0x80, 0x80, 0x80, 0x80, 0x80, 0x80, 0x80, 0x80, 0x40}
)

// 8.2

func TestLayOfTheExample(t *testing.T) {
	wantLay(t, api.Frame{Kind: api.FStop, Epoch: 3}, 2, 3)
}

func TestLayOfEachKind(t *testing.T) {
	anEvent := row(3, 4, 5, 6, 7, 2, 2, "ab", 1, minusTwo, 2, "cd", 3, 3, "xyz", 2, 1, 8, 0xac, 2, 9)
	all := eachKind()
	wantLay(t, all[api.FChange], 1, 0, 2, 3, 4, 3,
		2, "ab", 6, 1, five, 2, "ab", 8, 2, 0x3f, 0xf0, 0, 0, 0, 0, 0, 0, 1, 0, 0, 0, 0, 0, 0, 0, 9, 2, "cd", 10, 2, 3, 2, "xy", 4, 1)
	wantLay(t, gone(), 1, 1, 2, 3, 4, 0)
	wantLay(t, all[api.FStop], 2, 3)
	wantLay(t, all[api.FQuiet], 3, 4)
	wantLay(t, all[api.FOpen], 4, 5, 3, 2, 2, 3, 1, 2, "ab", 1, 2, 2, 7, 0, 3, 0, 9, 2, 2, "ab", 9, 3, 2, "xy", 2, "cd", 1)
	wantLay(t, all[api.FRise], 5, 6, anEvent)
	wantLay(t, all[api.FFall], 6, anEvent)
	wantLay(t, all[api.FPassed], 7, 1, 2, 3)
	wantLay(t, all[api.FDone], 8, 4, 5, 6, 7)
}

func TestLayOfNothing(t *testing.T) {
	wantLay(t, come(), 1, 0, 2, 3, 4, 0)
	wantLay(t, open(), 4, 5, 0)
	wantLay(t, open(sub(1, 2, 3)), 4, 5, 1, 1, 2, 3, 0)
	wantLay(t, api.Frame{Kind: api.FRise, Event: api.Event{Client: 1, Seq: 1}}, 5, 0, 1, 0, 1, 0, 0, 0, 0)
	wantLay(t, fall(withAttrs()), 6, 3, 4, 5, 6, 7, 0, 2, 1, 8, 0xac, 2, 9)
	wantLay(t, fall(withStamps()), 6, 3, 4, 5, 6, 7, 2, 2, "ab", 1, minusTwo, 2, "cd", 3, 3, "xyz", 0)
	wantLay(t, api.Frame{Kind: api.FStop}, 2, 0)
	wantLay(t, fall(api.Event{Client: 1, Seq: 1, Attrs: []api.Attr{}, Stamps: []api.Stamp{}}), 6, 1, 0, 1, 0, 0, 0, 0)
	wantLay(t, come(test("a", api.TPrefix, txt(""))), 1, 0, 2, 3, 4, 1, 1, "a", 9, 3, 0)
}

func TestLayOfNumbers(t *testing.T) {
	wantLay(t, api.Frame{Kind: api.FStop, Epoch: 127}, 2, 0x7f)
	wantLay(t, api.Frame{Kind: api.FStop, Epoch: 128}, 2, 0x80, 1)
	wantLay(t, api.Frame{Kind: api.FQuiet, Epoch: api.MaxNumber}, 3, most)
	wantLay(t, api.Frame{Kind: api.FOpen, Epoch: api.MaxNumber, Subs: []api.Sub{sub(6, 7, api.MaxNumber)}}, 4, most, 1, 6, 7, most, 0)
	wantLay(t, api.Frame{Kind: api.FPassed, To: 7, Client: 6, Seq: api.MaxNumber}, 7, 7, 6, most)
	wantLay(t, api.Frame{Kind: api.FDone, Client: 1, Seq: 300, From: 7}, 8, 0, 1, 0xac, 2, 7)
	e := api.Event{Client: 6, Broker: 7, Seq: api.MaxNumber, Epoch: api.MaxNumber, At: api.MaxNumber, Stamps: []api.Stamp{{Atom: 0, N: api.MaxNumber}, {Atom: api.MaxNumber, N: 1}}}
	wantLay(t, api.Frame{Kind: api.FRise, To: 7, Event: e}, 5, 7, 6, 7, most, most, most, 0, 2, 0, most, most, 1)
}

func TestLayOfManyStamps(t *testing.T) {
	l := stamps(api.MaxStamps, 1000, 1)
	want := row(6, 3, 4, 5, 6, 7, 0, 0xc8, 1)
	for _, s := range l {
		want = row(want, s.Atom%128|128, s.Atom/128, s.N)
	}
	e := withStamps(l...)
	e.Attrs = nil
	wantLay(t, fall(e), want)
}

// eachValue has some of each Kind, and their bytes.
func eachValue() ([]api.Value, [][]byte) {
	return []api.Value{
		num(5), num(-2), num(math.MinInt64), num(math.MaxInt64), fl(0.5), fl(nan), fl(math.Float64frombits(0xfff0000000000001)),
		fl(0), fl(negative), fl(math.Inf(-1)), txt("abcdefghijkl"), txt(""), txt("\xff\x00"), truth(false), truth(true),
	}, [][]byte{
		row(1, five), row(1, minusTwo), row(1, 0x80, 0, 0, 0, 0, 0, 0, 0), row(1, 0x7f, 0xff, 0xff, 0xff, 0xff, 0xff, 0xff, 0xff),
		row(2, half), row(2, ofNaN), row(2, ofNaN), row(2, nought), row(2, nought), row(2, 0xff, 0xf0, 0, 0, 0, 0, 0, 0),
		row(3, 12, "abcdefghijkl"), row(3, 0), row(3, 2, 0xff, 0), row(4, 0), row(4, 1),
	}
}

func TestLayOfEachValue(t *testing.T) {
	values, want := eachValue()
	for i, v := range values {
		e := api.Event{Client: 1, Seq: 1, Attrs: []api.Attr{at("abcdef", v)}}
		wantLay(t, fall(e), 6, 1, 0, 1, 0, 0, 1, 6, "abcdef", want[i], 0)
		wantLay(t, come(test("a", api.TLess, v)), 1, 0, 2, 3, 4, 1, 1, "a", 4, want[i])
		wantLay(t, come(between("a", num(5), v)), 1, 0, 2, 3, 4, 1, 1, "a", 8, 1, five, want[i])
		wantLay(t, come(between("a", v, num(5))), 1, 0, 2, 3, 4, 1, 1, "a", 8, want[i], 1, five)
		wantLay(t, come(in("a", v, v)), 1, 0, 2, 3, 4, 1, 1, "a", 10, 2, want[i], want[i])
	}
	// A nought where nothing is: it is laid nowhere.
	wantLay(t, come(api.Pred{Name: "a", Test: api.THas, V: api.Value{X: negative}}), 1, 0, 2, 3, 4, 1, 1, "a", 1)
	wantLay(t, come(test("a", api.TIs, api.Value{Kind: api.KInt, N: 5, X: negative})), 1, 0, 2, 3, 4, 1, 1, "a", 2, 1, five)
}

func TestLayOfEachTest(t *testing.T) {
	all := eachTest()
	for i, want := range [][]byte{
		row(1), row(2, 1, 0, 0, 0, 0, 0, 0, 0, 3), row(3, 2, 0x40, 4, 0, 0, 0, 0, 0, 0), row(4, 3, 3, "abc"), row(5, 4, 1),
		row(6, 1, 0xff, 0xff, 0xff, 0xff, 0xff, 0xff, 0xff, 0xff), row(7, 2, ofNaN), row(8, 1, 0, 0, 0, 0, 0, 0, 0, 3, 3, 1, "z"), row(9, 3, 0),
		row(10, 4, 1, 0, 0, 0, 0, 0, 0, 0, 3, 4, 0, 2, nought, 3, 3, "xyz"),
	} {
		name := string(rune('a' + i))
		wantLay(t, come(all[i]), 1, 0, 2, 3, 4, 1, 1, name, want)
		wantLay(t, come(all[i], all[i], has("z")), 1, 0, 2, 3, 4, 3, 1, name, want, 1, name, want, 1, "z", 1)
		wantLay(t, open(sub(1, 2, 3), sub(4, 5, 6, all[i])), 4, 5, 2, 1, 2, 3, 0, 4, 5, 6, 1, 1, name, want)
	}
}

func TestLayOfOneThatIsNotRight(t *testing.T) {
	for _, f := range []api.Frame{
		{}, {Kind: 9}, {Kind: -1}, {Kind: api.FStop, Epoch: -1}, {Kind: api.FStop, Epoch: 3, To: 1}, {Kind: api.FQuiet, Epoch: api.MaxNumber + 1},
		{Kind: api.FPassed, To: 1, Client: 2}, {Kind: api.FDone, To: 8, Client: 1, Seq: 1}, {Kind: api.FFall}, gone(has("a")),
		open(sub(1, 0, 1), sub(1, 0, 1)), fall(withStamps(stamps(2, 5, 0)...)), fall(withAttrs(at("A", num(1)))), come(in("a")),
	} {
		if b := wire.Lay(f); len(b) != 0 {
			t.Errorf("Lay(%+v): %x", f, b)
		}
	}
}

// loaded has something in all fields: no Kind has all that.
func loaded() api.Frame {
	f := api.Frame{Kind: 3, To: 1, From: 2, Client: 3, Seq: 4, Epoch: 5, Event: event(), Change: change(), Subs: subs()}
	f.Change.Gone = true
	f.Change.Sub.Filter[0].W = num(7)
	return f
}

// turns make another thing of one thing of a loaded frame each.
func turns() map[string]func(f *api.Frame) {
	return map[string]func(f *api.Frame){
		"Kind":            func(f *api.Frame) { f.Kind++ },
		"To":              func(f *api.Frame) { f.To++ },
		"From":            func(f *api.Frame) { f.From++ },
		"Client":          func(f *api.Frame) { f.Client++ },
		"Seq":             func(f *api.Frame) { f.Seq++ },
		"Epoch":           func(f *api.Frame) { f.Epoch++ },
		"Event.Client":    func(f *api.Frame) { f.Event.Client++ },
		"Event.Broker":    func(f *api.Frame) { f.Event.Broker++ },
		"Event.Seq":       func(f *api.Frame) { f.Event.Seq++ },
		"Event.Epoch":     func(f *api.Frame) { f.Event.Epoch++ },
		"Event.At":        func(f *api.Frame) { f.Event.At++ },
		"no Attrs":        func(f *api.Frame) { f.Event.Attrs = nil },
		"fewer Attrs":     func(f *api.Frame) { f.Event.Attrs = f.Event.Attrs[:1] },
		"Attrs turned":    func(f *api.Frame) { slices.Reverse(f.Event.Attrs) },
		"an Attr's Name":  func(f *api.Frame) { f.Event.Attrs[1].Name = "cc" },
		"an Attr's Kind":  func(f *api.Frame) { f.Event.Attrs[0].V.Kind = api.KFloat },
		"an Attr's N":     func(f *api.Frame) { f.Event.Attrs[0].V.N++ },
		"an Attr's X":     func(f *api.Frame) { f.Event.Attrs[0].V.X++ },
		"an Attr's S":     func(f *api.Frame) { f.Event.Attrs[1].V.S += "\x00" },
		"an Attr's B":     func(f *api.Frame) { f.Event.Attrs[1].V.B = true },
		"no Stamps":       func(f *api.Frame) { f.Event.Stamps = nil },
		"more Stamps":     func(f *api.Frame) { f.Event.Stamps = append(f.Event.Stamps, api.Stamp{}) },
		"Stamps turned":   func(f *api.Frame) { slices.Reverse(f.Event.Stamps) },
		"an Atom":         func(f *api.Frame) { f.Event.Stamps[1].Atom++ },
		"an Atom's N":     func(f *api.Frame) { f.Event.Stamps[1].N++ },
		"Gone":            func(f *api.Frame) { f.Change.Gone = false },
		"Change's Client": func(f *api.Frame) { f.Change.Sub.Client++ },
		"Change's Broker": func(f *api.Frame) { f.Change.Sub.Broker++ },
		"Change's Num":    func(f *api.Frame) { f.Change.Sub.Num++ },
		"no preds":        func(f *api.Frame) { f.Change.Sub.Filter = nil },
		"fewer preds":     func(f *api.Frame) { f.Change.Sub.Filter = f.Change.Sub.Filter[:2] },
		"preds turned":    func(f *api.Frame) { slices.Reverse(f.Change.Sub.Filter) },
		"a pred's Name":   func(f *api.Frame) { f.Change.Sub.Filter[0].Name = "aa" },
		"a Test":          func(f *api.Frame) { f.Change.Sub.Filter[0].Test = api.TLeast },
		"a V":             func(f *api.Frame) { f.Change.Sub.Filter[0].V = num(6) },
		"a V's Kind":      func(f *api.Frame) { f.Change.Sub.Filter[0].V = fl(5) },
		"a W":             func(f *api.Frame) { f.Change.Sub.Filter[1].W = num(10) },
		"no W":            func(f *api.Frame) { f.Change.Sub.Filter[0].W = api.Value{} },
		"a Set":           func(f *api.Frame) { f.Change.Sub.Filter[2].Set[1] = truth(false) },
		"a Set turned":    func(f *api.Frame) { slices.Reverse(f.Change.Sub.Filter[2].Set) },
		"less of a Set":   func(f *api.Frame) { f.Change.Sub.Filter[2].Set = f.Change.Sub.Filter[2].Set[:1] },
		"no Subs":         func(f *api.Frame) { f.Subs = nil },
		"fewer Subs":      func(f *api.Frame) { f.Subs = f.Subs[:2] },
		"more Subs":       func(f *api.Frame) { f.Subs = append(f.Subs, api.Sub{}) },
		"Subs turned":     func(f *api.Frame) { slices.Reverse(f.Subs) },
		"a Sub's Client":  func(f *api.Frame) { f.Subs[2].Client++ },
		"a Sub's Broker":  func(f *api.Frame) { f.Subs[0].Broker++ },
		"a Sub's Num":     func(f *api.Frame) { f.Subs[1].Num++ },
		"a Sub's preds":   func(f *api.Frame) { f.Subs[1].Filter = append(f.Subs[1].Filter, has("ab")) },
		"a Sub's Test":    func(f *api.Frame) { f.Subs[2].Filter[1].Test = 0 },
		"a Sub's V":       func(f *api.Frame) { f.Subs[2].Filter[0].V = txt("xz") },
	}
}

func wantSame(t *testing.T, what string, a, b api.Frame, want bool) {
	t.Helper()
	if wire.Same(a, b) != want || wire.Same(b, a) != want {
		t.Errorf("%s: Same(%+v, %+v): want %t", what, a, b, want)
	}
}

func TestSameOfFramesThatDifferInOneThing(t *testing.T) {
	f := loaded()
	wantSame(t, "itself", f, f, true)
	wantSame(t, "a twin", f, twin(f), true)
	for what, turn := range turns() {
		g := turned(f, turn)
		wantSame(t, what, f, g, false)
		wantSame(t, what+", twice", g, turned(f, turn), true)
	}
	for kind, f := range eachKind() {
		for other, g := range eachKind() {
			wantSame(t, "Kinds", f, g, kind == other)
		}
	}
}

// places are all those of a loaded frame where a value may stand.
func places() []func(f *api.Frame) *api.Value {
	return []func(f *api.Frame) *api.Value{
		func(f *api.Frame) *api.Value { return &f.Event.Attrs[1].V },
		func(f *api.Frame) *api.Value { return &f.Change.Sub.Filter[0].V },
		func(f *api.Frame) *api.Value { return &f.Change.Sub.Filter[0].W },
		func(f *api.Frame) *api.Value { return &f.Change.Sub.Filter[2].Set[0] },
		func(f *api.Frame) *api.Value { return &f.Subs[2].Filter[0].V },
		func(f *api.Frame) *api.Value { return &f.Subs[2].Filter[1].W },
	}
}

func TestSameOfNaNAndTheNoughts(t *testing.T) {
	otherNaN := math.Float64frombits(0xfff0000000000001)
	for _, place := range places() {
		with := func(x float64) api.Frame {
			return turned(loaded(), func(f *api.Frame) { *place(f) = fl(x) })
		}
		wantSame(t, "NaN", with(nan), with(nan), true)
		wantSame(t, "two NaNs", with(nan), with(otherNaN), true)
		wantSame(t, "the noughts", with(0), with(negative), true)
		wantSame(t, "NaN and 0", with(nan), with(0), false)
		wantSame(t, "NaN and 1", with(nan), with(1), false)
		wantSame(t, "0 and 1", with(negative), with(1), false)
		whole := turned(loaded(), func(f *api.Frame) { *place(f) = num(0) })
		wantSame(t, "0 of two Kinds", with(0), whole, false)
		// X counts where the Kind does not name it, too.
		stray := turned(loaded(), func(f *api.Frame) { *place(f) = api.Value{Kind: api.KInt, X: nan} })
		wantSame(t, "a stray NaN", stray, whole, false)
		wantSame(t, "a stray NaN", stray, stray, true)
	}
}

func TestSameOfNothing(t *testing.T) {
	wantSame(t, "none", api.Frame{}, api.Frame{}, true)
	empty := api.Frame{Event: api.Event{Attrs: []api.Attr{}, Stamps: []api.Stamp{}}, Change: api.Change{Sub: api.Sub{Filter: []api.Pred{}}}, Subs: []api.Sub{}}
	wantSame(t, "empty lists", api.Frame{}, empty, true)
	zero := api.Pred{Name: "a", Test: api.TIs}
	set := zero
	set.Set = []api.Value{}
	wantSame(t, "an empty Set", come(zero), come(set), true)
	set.Set = []api.Value{{}}
	wantSame(t, "a Set of a zero value", come(zero), come(set), false)
	for what, one := range map[string]api.Frame{
		"a zero Attr":  fall(api.Event{Attrs: make([]api.Attr, 1)}),
		"a zero Stamp": fall(api.Event{Stamps: make([]api.Stamp, 1)}),
	} {
		wantSame(t, what, one, fall(api.Event{}), false)
		wantSame(t, what, one, one, true)
	}
	wantSame(t, "a zero Sub", open(api.Sub{}), open(), false)
	wantSame(t, "a zero test", come(api.Pred{}), come(), false)
}

// R2: what is handed in stays as it is, its spare room too; the answer is new.
func TestLayAndSameKeepNothing(t *testing.T) {
	for _, f := range append(eachKind(), loaded()) {
		g := twin(f)
		first := wire.Lay(g)
		before := slices.Clone(first)
		wire.Right(g)
		wire.Same(g, g)
		if !alike(g, f) {
			t.Errorf("%+v is %+v now", f, g)
		}
		room := first[:cap(first)]
		for i := range room {
			room[i] ^= 0xff
		}
		if again := wire.Lay(g); !slices.Equal(again, before) {
			t.Errorf("Lay(%+v): %x, then %x", f, before, again)
		}
	}
}

func TestSpareRoomStays(t *testing.T) {
	for _, f := range append(eachKind(), loaded()) {
		g := twin(f)
		wire.Lay(g)
		wire.Same(g, g)
		for _, a := range g.Event.Attrs[len(g.Event.Attrs):cap(g.Event.Attrs)] {
			if a != (api.Attr{}) {
				t.Errorf("behind Attrs: %+v", a)
			}
		}
		for _, s := range g.Event.Stamps[len(g.Event.Stamps):cap(g.Event.Stamps)] {
			if s != (api.Stamp{}) {
				t.Errorf("behind Stamps: %+v", s)
			}
		}
		for _, s := range g.Subs[len(g.Subs):cap(g.Subs)] {
			if !alikeSub(s, api.Sub{}) {
				t.Errorf("behind Subs: %+v", s)
			}
		}
	}
}
