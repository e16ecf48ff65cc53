package wire_test

import (
	"bytes"
	"encoding/binary"
	"math"
	"slices"

	"precentor/api"
)

// taker goes over bytes as 8.3 says, word by word; the first error stays.
type taker struct {
	b []byte
	e api.Errno
}

// told is the error that Read has to answer of b.
func told(b []byte) api.Errno {
	k := &taker{b: b}
	k.frame()
	k.need(len(k.b) == 0)
	return k.e
}

func (k *taker) fail(e api.Errno) {
	if k.e == api.OK {
		k.e = e
	}
}

func (k *taker) need(ok bool) {
	if !ok {
		k.fail(api.ErrForm)
	}
}

// some takes n bytes.
func (k *taker) some(n int) []byte {
	if n > len(k.b) {
		k.fail(api.ErrShort)
	}
	if k.e != api.OK {
		return make([]byte, n)
	}
	taken := k.b[:n]
	k.b = k.b[n:]
	return taken
}

// nat takes a number from low to high.
func (k *taker) nat(low, high int) int {
	end := 1 + slices.IndexFunc(k.b[:min(9, len(k.b))], func(c byte) bool { return c < 0x80 })
	if end == 0 && len(k.b) >= 9 {
		k.need(false)
	}
	if end == 0 {
		k.fail(api.ErrShort)
	}
	if k.e != api.OK {
		return low
	}
	n, _ := binary.Uvarint(k.b[:end])
	k.need(bytes.Equal(binary.AppendUvarint(nil, n), k.b[:end]))
	k.need(n <= api.MaxNumber && int(n) >= low && int(n) <= high)
	if k.e != api.OK {
		return low
	}
	k.b = k.b[end:]
	return int(n)
}

// each does f so many times, as long as all goes well.
func (k *taker) each(low, high int, f func(i int)) {
	n := k.nat(low, high)
	for i := 0; i < n && k.e == api.OK; i++ {
		f(i)
	}
}

func (k *taker) word() string {
	s := string(k.some(k.nat(0, api.MaxWord)))
	k.need(s != "")
	for i := range len(s) {
		k.need(s[i] >= 'a' && s[i] <= 'z')
	}
	return s
}

// value takes one, and tells its Kind.
func (k *taker) value() int {
	kind := k.nat(1, 4)
	switch kind {
	case api.KInt:
		k.some(8)
	case api.KFloat:
		w := binary.BigEndian.Uint64(k.some(8))
		x := math.Float64frombits(w)
		k.need(w != 1<<63 && (x == x || w == oneNaN))
	case api.KText:
		k.some(k.nat(0, api.MaxText))
	case api.KBool:
		k.nat(0, 1)
	}
	return kind
}

func (k *taker) event() {
	k.nat(1, 6)
	k.nat(0, 7)
	k.nat(1, api.MaxNumber)
	k.nat(0, api.MaxNumber)
	k.nat(0, api.MaxNumber)
	name, atom := "", -1
	k.each(0, 5, func(int) {
		next := k.word()
		k.need(next > name)
		name = next
		k.value()
	})
	k.each(0, 200, func(int) {
		next := k.nat(0, api.MaxNumber)
		k.need(next > atom)
		atom = next
		k.nat(1, api.MaxNumber)
	})
}

func (k *taker) test() {
	switch k.nat(1, 10) {
	case api.THas:
	case api.TRange:
		k.value()
		k.value()
	case api.TPrefix:
		k.need(k.value() == api.KText)
	case api.TIn:
		k.each(1, 4, func(int) { k.value() })
	default:
		k.value()
	}
}

// sub takes one that is behind the Num of the Client, and tells its own.
func (k *taker) sub(client, num, most int) (int, int) {
	next := k.nat(1, 6)
	k.need(next >= client)
	k.nat(0, 7)
	n := k.nat(1, api.MaxNumber)
	k.need(next != client || n > num)
	name := ""
	k.each(0, most, func(int) {
		next := k.word()
		k.need(next >= name)
		name = next
		k.test()
	})
	return next, n
}

func (k *taker) frame() {
	switch kind := k.nat(1, 8); kind {
	case api.FChange:
		k.sub(0, 0, 3-3*k.nat(0, 1))
	case api.FStop, api.FQuiet:
		k.nat(0, api.MaxNumber)
	case api.FOpen:
		k.nat(0, api.MaxNumber)
		client, num := 0, 0
		k.each(0, 18, func(int) { client, num = k.sub(client, num, 3) })
	case api.FRise:
		k.nat(0, 7)
		k.event()
	case api.FFall:
		k.event()
	case api.FPassed, api.FDone:
		k.nat(0, 7)
		k.nat(1, 6)
		k.nat(1, api.MaxNumber)
		if kind == api.FDone {
			k.nat(0, 7)
		}
	}
}
