package wire

import (
	"precentor/api"
	"precentor/attr"
	"precentor/pack"
	"precentor/trap"
	"precentor/value"
)

// Read tells the right frame whose Lay is b, or the first error that is met.
func Read(b []byte) (api.Frame, api.Errno) {
	var f api.Frame
	e := pack.Read(b, func(r *pack.Reader) { f = takeFrame(r) })
	if e != api.OK {
		// Where only bytes were left, f is whole.
		return api.Frame{}, e
	}
	return f, api.OK
}

// takeFrame takes one, and Stops as soon as a part of it isn't right. Here and
// below, calls of one literal go from left to right: its fields stand in the
// order of the bytes.
func takeFrame(r *pack.Reader) api.Frame {
	f := api.Frame{Kind: r.Nat()}
	switch f.Kind {
	case api.FChange:
		f.Change = takeChange(r)
	case api.FStop, api.FQuiet:
		f.Epoch = take(r, isNumber)
	case api.FOpen:
		f.Epoch = take(r, isNumber)
		f.Subs = takeSubs(r)
	case api.FRise:
		f.To = take(r, isBroker)
		f.Event = takeEvent(r)
	case api.FFall:
		f.Event = takeEvent(r)
	case api.FPassed, api.FDone:
		f.To = take(r, isBroker)
		f.Client = take(r, isClient)
		f.Seq = take(r, isCounted)
		if f.Kind == api.FDone {
			f.From = take(r, isBroker)
		}
	default:
		trap.Stop(api.ErrForm)
	}
	return f
}

// take takes a number for which right holds.
func take(r *pack.Reader, right func(n int) bool) int {
	n := r.Nat()
	trap.Need(right(n), api.ErrForm)
	return n
}

// takeCount takes how many there are: from least to most.
func takeCount(r *pack.Reader, least, most int) int {
	return take(r, func(n int) bool { return least <= n && n <= most })
}

func takeBool(r *pack.Reader) bool {
	return take(r, func(n int) bool { return n == 0 || n == 1 }) == 1
}

func takeWord(r *pack.Reader) string {
	s := r.Text(api.MaxWord)
	trap.Need(attr.Word(s), api.ErrForm)
	return s
}

func takeEvent(r *pack.Reader) api.Event {
	return api.Event{
		Client: take(r, isClient),
		Broker: take(r, isBroker),
		Seq:    take(r, isCounted),
		Epoch:  take(r, isNumber),
		At:     take(r, isNumber),
		Attrs:  takeAttrs(r),
		Stamps: takeStamps(r),
	}
}

func takeAttrs(r *pack.Reader) []api.Attr {
	var l []api.Attr
	for i := range takeCount(r, 0, api.MaxAttrs) {
		name := takeWord(r)
		trap.Need(i == 0 || name > l[i-1].Name, api.ErrForm)
		l = append(l, api.Attr{Name: name, V: takeValue(r)})
	}
	return l
}

func takeStamps(r *pack.Reader) []api.Stamp {
	var l []api.Stamp
	for i := range takeCount(r, 0, api.MaxStamps) {
		atom := take(r, isNumber)
		trap.Need(i == 0 || atom > l[i-1].Atom, api.ErrForm)
		l = append(l, api.Stamp{Atom: atom, N: take(r, isCounted)})
	}
	return l
}

func takeValue(r *pack.Reader) api.Value {
	switch r.Nat() {
	case api.KInt:
		return value.Int(r.Int())
	case api.KFloat:
		return value.Float(r.Float())
	case api.KText:
		return value.Text(r.Text(api.MaxText))
	case api.KBool:
		return value.Bool(takeBool(r))
	}
	trap.Stop(api.ErrForm)
	return api.Value{}
}

func takeChange(r *pack.Reader) api.Change {
	gone := takeBool(r)
	most := api.MaxPreds
	if gone {
		most = 0
	}
	return api.Change{Gone: gone, Sub: takeSub(r, api.Sub{}, most)}
}

func takeSubs(r *pack.Reader) []api.Sub {
	var l []api.Sub
	var ahead api.Sub
	for range takeCount(r, 0, mostSubs) {
		ahead = takeSub(r, ahead, api.MaxPreds)
		l = append(l, ahead)
	}
	return l
}

// takeSub takes one that is behind the one ahead, of most tests; each is
// behind the zero one.
func takeSub(r *pack.Reader, ahead api.Sub, most int) api.Sub {
	s := api.Sub{Client: take(r, isClient)}
	trap.Need(s.Client >= ahead.Client, api.ErrForm)
	s.Broker = take(r, isBroker)
	s.Num = take(r, isCounted)
	trap.Need(isBehind(s, ahead), api.ErrForm)
	s.Filter = takeFilter(r, most)
	return s
}

func takeFilter(r *pack.Reader, most int) []api.Pred {
	var f []api.Pred
	for i := range takeCount(r, 0, most) {
		name := takeWord(r)
		trap.Need(i == 0 || name >= f[i-1].Name, api.ErrForm)
		f = append(f, takeTest(r, name))
	}
	return f
}

func takeTest(r *pack.Reader, name string) api.Pred {
	p := api.Pred{Name: name, Test: r.Nat()}
	switch p.Test {
	case api.THas:
	case api.TIs, api.TNot, api.TLess, api.TMost, api.TMore, api.TLeast:
		p.V = takeValue(r)
	case api.TRange:
		p.V = takeValue(r)
		p.W = takeValue(r)
	case api.TPrefix:
		p.V = takeValue(r)
		trap.Need(p.V.Kind == api.KText, api.ErrForm)
	case api.TIn:
		p.Set = takeSet(r)
	default:
		trap.Stop(api.ErrForm)
	}
	return p
}

func takeSet(r *pack.Reader) []api.Value {
	var set []api.Value
	for range takeCount(r, 1, api.MaxSet) {
		set = append(set, takeValue(r))
	}
	return set
}
