package wire

import (
	"precentor/api"
	"precentor/pack"
)

// Lay tells the bytes of f: its Kind, and what a frame of that has; none of
// one that isn't right.
func Lay(f api.Frame) []byte {
	if !Right(f) {
		return nil
	}
	b := addNats(nil, f.Kind)
	switch f.Kind {
	case api.FChange:
		return addChange(b, f.Change)
	case api.FStop, api.FQuiet:
		return addNats(b, f.Epoch)
	case api.FOpen:
		return addSubs(addNats(b, f.Epoch), f.Subs)
	case api.FRise:
		return addEvent(addNats(b, f.To), f.Event)
	case api.FFall:
		return addEvent(b, f.Event)
	case api.FPassed:
		return addNats(b, f.To, f.Client, f.Seq)
	case api.FDone:
		return addNats(b, f.To, f.Client, f.Seq, f.From)
	}
	return nil
}

// addNats appends each of ns, packed by itself: pack would copy all of b for
// each of them.
func addNats(b []byte, ns ...int) []byte {
	for _, n := range ns {
		b = append(b, pack.Nat(nil, n)...)
	}
	return b
}

func addText(b []byte, s string) []byte {
	return append(b, pack.Text(nil, s)...)
}

func addBool(b []byte, is bool) []byte {
	if is {
		return addNats(b, 1)
	}
	return addNats(b, 0)
}

func addEvent(b []byte, e api.Event) []byte {
	b = addNats(b, e.Client, e.Broker, e.Seq, e.Epoch, e.At)
	b = addNats(b, len(e.Attrs))
	for _, a := range e.Attrs {
		b = addText(b, a.Name)
		b = addValue(b, a.V)
	}
	b = addNats(b, len(e.Stamps))
	for _, s := range e.Stamps {
		b = addNats(b, s.Atom, s.N)
	}
	return b
}

func addValue(b []byte, v api.Value) []byte {
	b = addNats(b, v.Kind)
	switch v.Kind {
	case api.KInt:
		return append(b, pack.Int(nil, v.N)...)
	case api.KFloat:
		return append(b, pack.Float(nil, v.X)...)
	case api.KText:
		return addText(b, v.S)
	case api.KBool:
		return addBool(b, v.B)
	}
	return b
}

func addChange(b []byte, c api.Change) []byte {
	return addSub(addBool(b, c.Gone), c.Sub)
}

func addSubs(b []byte, l []api.Sub) []byte {
	b = addNats(b, len(l))
	for _, s := range l {
		b = addSub(b, s)
	}
	return b
}

func addSub(b []byte, s api.Sub) []byte {
	return addFilter(addNats(b, s.Client, s.Broker, s.Num), s.Filter)
}

func addFilter(b []byte, f []api.Pred) []byte {
	b = addNats(b, len(f))
	for _, p := range f {
		b = addText(b, p.Name)
		b = addNats(b, p.Test)
		b = addNeeds(b, p)
	}
	return b
}

// addNeeds appends what the Test needs.
func addNeeds(b []byte, p api.Pred) []byte {
	switch p.Test {
	case api.TIs, api.TNot, api.TLess, api.TMost, api.TMore, api.TLeast, api.TPrefix:
		return addValue(b, p.V)
	case api.TRange:
		return addValue(addValue(b, p.V), p.W)
	case api.TIn:
		return addSet(b, p.Set)
	}
	return b
}

func addSet(b []byte, set []api.Value) []byte {
	b = addNats(b, len(set))
	for _, v := range set {
		b = addValue(b, v)
	}
	return b
}
