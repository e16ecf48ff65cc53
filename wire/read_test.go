package wire_test

import (
	"bytes"
	"math"
	"slices"
	"strings"
	"testing"

	"precentor/api"
	"precentor/value"
	"precentor/wire"
)

// wantRead asks for f to the bit, beside OK.
func wantRead(t *testing.T, b []byte, f api.Frame) {
	t.Helper()
	if g, e := wire.Read(b); e != api.OK || !alike(g, f) {
		t.Errorf("Read(%x): %+v, %d; want %+v", b, g, e, f)
	}
}

func wantError(t *testing.T, b []byte, want api.Errno) {
	t.Helper()
	if f, e := wire.Read(b); e != want || !alike(f, api.Frame{}) {
		t.Errorf("Read(%x): %+v, %d; want %d", b, f, e, want)
	}
}

// wantTold asks that ErrForm is told at the last byte of b: not ahead of it,
// and whatever is behind.
func wantTold(t *testing.T, b []byte) {
	t.Helper()
	for k := range b {
		wantError(t, b[:k], api.ErrShort)
	}
	wantError(t, b, api.ErrForm)
	for _, behind := range [][]byte{{0}, {1}, {0x80}, {0xff}, bytes.Repeat([]byte{1}, 40)} {
		wantError(t, slices.Concat(b, behind), api.ErrForm)
	}
}

// 8.3

func TestReadOfTheExamples(t *testing.T) {
	wantRead(t, row(2, 3), api.Frame{Kind: api.FStop, Epoch: 3})
	wantError(t, row(2), api.ErrShort)
	wantError(t, row(9), api.ErrForm)
}

func TestReadOfEachKind(t *testing.T) {
	for _, f := range append(eachKind()[1:], gone()) {
		wantRead(t, wire.Lay(f), f)
		wantRead(t, bytesOf(f), f)
	}
	wantRead(t, row(1, 1, 2, 3, 4, 0), gone())
	wantRead(t, row(3, 0xac, 2), api.Frame{Kind: api.FQuiet, Epoch: 300})
	wantRead(t, row(5, 0, 1, 0, 1, 0, 0, 0, 0), api.Frame{Kind: api.FRise, Event: api.Event{Client: 1, Seq: 1}})
	wantRead(t, row(7, 1, 2, 3), api.Frame{Kind: api.FPassed, To: 1, Client: 2, Seq: 3})
	wantRead(t, row(8, 4, 5, 6, 7), api.Frame{Kind: api.FDone, To: 4, Client: 5, Seq: 6, From: 7})
}

func TestReadOfEachValueAndTest(t *testing.T) {
	values, laid := eachValue()
	for i, v := range values {
		if v.X == 0 {
			v.X = 0
		}
		wantRead(t, row(6, 1, 0, 1, 0, 0, 1, 6, "abcdef", laid[i], 0), fall(api.Event{Client: 1, Seq: 1, Attrs: []api.Attr{at("abcdef", v)}}))
		wantRead(t, row(1, 0, 2, 3, 4, 1, 1, "a", 4, laid[i]), come(test("a", api.TLess, v)))
		wantRead(t, row(1, 0, 2, 3, 4, 1, 1, "a", 8, laid[i], 4, 1), come(between("a", v, truth(true))))
		wantRead(t, row(1, 0, 2, 3, 4, 1, 1, "a", 8, 4, 1, laid[i]), come(between("a", truth(true), v)))
		wantRead(t, row(1, 0, 2, 3, 4, 1, 1, "a", 10, 2, laid[i], laid[i]), come(in("a", v, v)))
	}
	for _, p := range eachTest() {
		wantRead(t, bytesOf(come(p, p)), come(p, p))
		wantRead(t, bytesOf(open(sub(1, 2, 3, p), sub(4, 5, 6, p))), open(sub(1, 2, 3, p), sub(4, 5, 6, p)))
	}
}

func TestReadOfTheMost(t *testing.T) {
	wantRead(t, bytesOf(open(allSubs(0)...)), open(allSubs(0)...))
	e := withAttrs(many(api.MaxAttrs)...)
	e.Stamps = stamps(api.MaxStamps, 0, 1<<50)
	wantRead(t, bytesOf(fall(e)), fall(e))
	long := strings.Repeat("x", api.MaxText)
	f := come(test("abcdef", api.TPrefix, txt(long)), in("abcdef", txt(long), txt(long), txt(long), txt(long)), test("abcdef", api.TNot, txt(long)))
	wantRead(t, bytesOf(f), f)
	for _, n := range append(numbers(), listed()...) {
		for _, kind := range n.kinds {
			for _, x := range []int{n.low, n.high} {
				f := turned(eachKind()[kind], func(f *api.Frame) { *n.at(f) = x })
				wantRead(t, bytesOf(f), f)
			}
		}
	}
}

func TestReadOfAKindThatIsNone(t *testing.T) {
	for _, b := range [][]byte{{0}, {9}, {10}, {0x7f}, {0x80, 1}, {0x82, 1}, {0x82, 2}, {0x82, 0}, most} {
		wantTold(t, b)
	}
}

// upTo tells the bytes of bad up to the end of the first part that good has
// otherwise.
func upTo(good, bad api.Frame) []byte {
	p, q := partsOf(good), partsOf(bad)
	for i := range q {
		if i >= len(p) || !bytes.Equal(p[i], q[i]) {
			return slices.Concat(q[:i+1]...)
		}
	}
	return nil
}

// wantBadPart asks that bad, which is not right in one part, is refused there.
func wantBadPart(t *testing.T, good, bad api.Frame) {
	t.Helper()
	wantRight(t, good, true)
	wantRight(t, bad, false)
	wantRead(t, bytesOf(good), good)
	wantTold(t, upTo(good, bad))
	wantError(t, bytesOf(bad), api.ErrForm)
}

func TestReadOfNumbersOutOfBounds(t *testing.T) {
	for _, n := range append(numbers(), listed()...) {
		for _, kind := range n.kinds {
			good := turned(eachKind()[kind], func(f *api.Frame) { *n.at(f) = n.high - 1 })
			for _, x := range []int{n.low - 1, n.high + 1, n.high + 100, n.high + 128, highest} {
				if x >= 0 {
					wantBadPart(t, good, turned(good, func(f *api.Frame) { *n.at(f) = x }))
				}
			}
		}
	}
	for _, b := range [][]byte{
		row(5, 8), row(7, 8), row(8, 8), row(7, 0x88, 1), row(7, 0, 0), row(7, 0, 7), row(8, 0, 0), row(8, 7, 7), row(7, 7, 6, 0),
		row(8, 7, 6, 0), row(8, 0, 1, 1, 8), row(6, 0), row(6, 7), row(6, 1, 8), row(6, 1, 7, 0), row(1, 0, 0), row(1, 0, 7), row(1, 1, 0),
		row(1, 0, 1, 8), row(1, 0, 1, 2, 0), row(1, 1, 1, 2, 0), row(4, 0, 1, 0), row(4, 0, 1, 7), row(4, 0, 1, 1, 8), row(4, 0, 1, 1, 7, 0),
	} {
		wantTold(t, b)
	}
}

// What pack bars is barred wherever a number stands.
func TestReadOfNumbersThatPackBars(t *testing.T) {
	bars := [][]byte{
		row(0x80, 0), row(0x81, 0), row(0x81, 0x80, 0), row(0xff, 0xff, 0), row(most[:8], 0),
		bytes.Repeat([]byte{0x80}, 9), bytes.Repeat([]byte{0xff}, 9),
		row(0x81, most[1:]), row(most[:8], 0x41), row(most[:8], 0x7f), row(bytes.Repeat([]byte{0xff}, 8), 0x7f),
	}
	event := row(6, 3, 4, 5, 6, 7)
	sub := row(1, 0, 2, 3, 4)
	heads := [][]byte{
		{}, {2}, {3}, {4}, {4, 5}, {5}, {7}, {7, 1}, {7, 1, 2}, {8}, {8, 4}, {8, 4, 5}, {8, 4, 5, 6},
		{6}, {6, 3}, {6, 3, 4}, {6, 3, 4, 5}, {6, 3, 4, 5, 6}, event, row(event, 1), row(event, 1, 1, "a"), row(event, 1, 1, "a", 3), row(event, 1, 1, "a", 4),
		row(event, 0), row(event, 0, 1), row(event, 0, 1, 0), row(event, 0, 2, 0, 1),
		{1}, {1, 0}, {1, 0, 2}, {1, 0, 2, 3}, sub, row(sub, 1), row(sub, 1, 1, "a"), row(sub, 1, 1, "a", 2), row(sub, 1, 1, "a", 2, 3), row(sub, 1, 1, "a", 2, 4),
		row(sub, 1, 1, "a", 8, 4, 0), row(sub, 1, 1, "a", 10), row(sub, 1, 1, "a", 10, 1), row(sub, 1, 1, "a", 9), row(sub, 1, 1, "a", 9, 3),
		{1, 1}, {1, 1, 2, 3, 4}, {4, 5, 2, 1, 2, 3, 0}, {4, 5, 2, 1, 2, 3, 0, 4, 5},
	}
	for _, head := range heads {
		for _, b := range bars {
			wantTold(t, row(head, b))
		}
		wantError(t, row(head, 0x80), api.ErrShort)
		wantError(t, row(head, 0xff, 0xff), api.ErrShort)
		wantError(t, row(head, bytes.Repeat([]byte{0xff}, 8)), api.ErrShort)
	}
}

func TestReadOfCountsAboveTheMost(t *testing.T) {
	event := row(6, 3, 4, 5, 6, 7)
	sub := row(1, 0, 2, 3, 4)
	for _, b := range [][]byte{
		row(event, api.MaxAttrs+1), row(event, 0x7f), row(event, 0x80, 1), row(event, most), row(event, 0, 0xc9, 1), row(event, 0, 0xc8, 2), row(event, 0, most),
		row(sub, api.MaxPreds+1), row(sub, 0x81, 1), row(sub, most), row(sub, 1, 1, "a", 10, api.MaxSet+1), row(sub, 1, 1, "a", 10, most),
		{4, 5, 19}, {4, 5, 0x80, 1}, row(4, 5, most), row(4, 5, 1, 1, 2, 3, 4),
	} {
		wantTold(t, b)
	}
	wantBadPart(t, fall(withAttrs(many(5)...)), fall(withAttrs(many(6)...)))
	wantBadPart(t, rise(withStamps(stamps(200, 0, 1)...)), rise(withStamps(stamps(201, 0, 1)...)))
	wantBadPart(t, open(allSubs(0)...), open(allSubs(1)...))
	p := has("a")
	wantBadPart(t, come(p, p, p), come(p, p, p, p))
	wantBadPart(t, open(sub1(p, p, p)), open(sub1(p, p, p, p)))
	v := num(1)
	wantBadPart(t, come(in("a", v, v, v, v)), come(in("a", v, v, v, v, v)))
}

func sub1(f ...api.Pred) api.Sub { return sub(1, 2, 3, f...) }

func TestReadOfASetOfNoValues(t *testing.T) {
	wantTold(t, row(1, 0, 2, 3, 4, 1, 1, "a", 10, 0))
	wantBadPart(t, come(in("a", num(1))), come(in("a")))
	wantBadPart(t, open(sub1(has("a"), in("b", num(1)))), open(sub1(has("a"), in("b"))))
}

func TestReadOfPredsInAChangeThatIsGone(t *testing.T) {
	for n := 1; n <= 5; n++ {
		wantTold(t, row(1, 1, 2, 3, 4, n))
	}
	wantBadPart(t, gone(), gone(has("a")))
	wantBadPart(t, gone(), gone(has("a"), has("b"), has("c")))
}

// notWords are some that have as many bytes as one may.
var notWords = []string{"A", "`", "{", "a1", "aB", "a b", "a_", "abcdeF", "\x00", "\xff", "\xc3\xa9"}

func TestReadOfANameThatIsNoWord(t *testing.T) {
	for _, head := range [][]byte{
		row(6, 3, 4, 5, 6, 7, 1), row(6, 3, 4, 5, 6, 7, 2, 1, "a", 4, 0), row(1, 0, 2, 3, 4, 1), row(1, 0, 2, 3, 4, 2, 1, "a", 1), row(4, 5, 1, 1, 2, 3, 1),
	} {
		wantTold(t, row(head, 0))
		for _, name := range notWords {
			wantTold(t, row(head, len(name), name))
		}
	}
}

func TestReadOfTextsThatAreTooLong(t *testing.T) {
	attr, first, prefix := row(6, 3, 4, 5, 6, 7, 1), row(1, 0, 2, 3, 4, 1), row(1, 0, 2, 3, 4, 1, 1, "a", 9, 3)
	for _, head := range [][]byte{attr, first} {
		wantTold(t, row(head, api.MaxWord+1))
		wantTold(t, row(head, api.MaxText))
		wantTold(t, row(head, 0x80, 1))
		wantTold(t, row(head, most))
		wantError(t, row(head, api.MaxWord, "abcde"), api.ErrShort)
		wantError(t, row(head, api.MaxWord, "abcdef"), api.ErrShort)
	}
	for _, head := range [][]byte{row(attr, 1, "a", 3), row(first, 1, "a", 2, 3), row(first, 1, "a", 10, 1, 3), row(first, 1, "a", 8, 4, 1, 3), prefix} {
		wantTold(t, row(head, api.MaxText+1))
		wantTold(t, row(head, 0x8c, 1))
		wantTold(t, row(head, most))
		wantError(t, row(head, api.MaxText, strings.Repeat("x", api.MaxText-1)), api.ErrShort)
	}
	wantRead(t, row(prefix, api.MaxText, strings.Repeat("x", api.MaxText)), come(test("a", api.TPrefix, txt(strings.Repeat("x", api.MaxText)))))
	wantBadPart(t, fall(withAttrs(at("abcdef", num(1)))), fall(withAttrs(at("abcdefg", num(1)))))
	wantBadPart(t, fall(withAttrs(at("a", txt("x")))), fall(withAttrs(at("a", tooLong))))
}

func TestReadOfNamesThatDoNotRise(t *testing.T) {
	with := func(name string) api.Frame {
		return fall(withAttrs(at("ab", num(1)), at("cd", num(2)), at(name, num(3))))
	}
	for _, name := range []string{"cd", "cc", "ab", "aa"} {
		wantBadPart(t, with("zz"), with(name))
	}
	for _, name := range []string{"ce", "dd", "cda", "d"} {
		wantRead(t, bytesOf(with(name)), with(name))
	}
	wantTold(t, row(6, 3, 4, 5, 6, 7, 2, 1, "b", 4, 0, 2, "aa"))
	wantTold(t, row(6, 3, 4, 5, 6, 7, 2, 2, "bb", 4, 0, 1, "b"))
}

func TestReadOfNamesThatFall(t *testing.T) {
	with := func(name string) api.Frame { return come(has("ab"), has("cd"), has(name)) }
	for _, name := range []string{"cc", "ab", "aa"} {
		wantBadPart(t, with("zz"), with(name))
		wantBadPart(t, open(sub1(with("zz").Change.Sub.Filter...)), open(sub1(with(name).Change.Sub.Filter...)))
	}
	for _, name := range []string{"cd", "ce", "cda", "d"} {
		wantRead(t, bytesOf(with(name)), with(name))
	}
	wantTold(t, row(1, 0, 2, 3, 4, 2, 1, "b", 1, 2, "aa"))
	// Another Sub's Names begin anew.
	wantRead(t, bytesOf(open(sub(1, 2, 3, has("b")), sub(1, 2, 4, has("a")))), open(sub(1, 2, 3, has("b")), sub(1, 2, 4, has("a"))))
}

func TestReadOfATestThatIsNone(t *testing.T) {
	head := row(1, 0, 2, 3, 4, 1, 1, "a")
	for _, b := range [][]byte{{0}, {11}, {12}, {0x7f}, {0x81, 1}, most} {
		wantTold(t, row(head, b))
		wantTold(t, row(1, 0, 2, 3, 4, 2, 1, "a", 1, 1, "a", b))
		wantTold(t, row(4, 5, 1, 1, 2, 3, 1, 1, "a", b))
	}
}

// valueHeads are beginnings behind which a value stands.
func valueHeads() [][]byte {
	test := row(1, 0, 2, 3, 4, 1, 1, "a")
	heads := [][]byte{
		row(6, 3, 4, 5, 6, 7, 1, 1, "a"), row(6, 3, 4, 5, 6, 7, 2, 1, "a", 4, 1, 1, "b"), row(test, 8, 4, 0), row(test, 10, 1), row(test, 10, 2, 4, 0),
		row(4, 5, 1, 1, 2, 3, 1, 1, "a", 2),
	}
	for kind := api.TIs; kind <= api.TPrefix; kind++ {
		heads = append(heads, row(test, kind))
	}
	return heads
}

func TestReadOfValuesThatAreNone(t *testing.T) {
	for _, head := range valueHeads() {
		for _, b := range [][]byte{{0}, {5}, {6}, {0x7f}, {0x81, 1}, most} {
			wantTold(t, row(head, b))
		}
		// B.
		for _, b := range [][]byte{{2}, {3}, {0x7f}, {0x80, 1}, {0x81, 1}, most} {
			wantTold(t, row(head, 4, b))
		}
		// X: -0, and NaNs but the one.
		for _, b := range [][]byte{
			{0x80, 0, 0, 0, 0, 0, 0, 0}, {0x7f, 0xf8, 0, 0, 0, 0, 0, 1}, {0xff, 0xf8, 0, 0, 0, 0, 0, 0}, {0x7f, 0xf0, 0, 0, 0, 0, 0, 1},
		} {
			wantTold(t, row(head, 2, b))
		}
		for n := range 8 {
			wantError(t, row(head, 1, minusTwo[:n]), api.ErrShort)
			wantError(t, row(head, 2, half[:n]), api.ErrShort)
		}
	}
}

func TestReadOfAVThatTPrefixMayNotHave(t *testing.T) {
	for _, head := range [][]byte{row(1, 0, 2, 3, 4, 1, 1, "a", 9), row(1, 0, 2, 3, 4, 2, 1, "a", 1, 1, "a", 9), row(4, 5, 1, 1, 2, 3, 1, 1, "a", 9)} {
		// All of it is read ahead.
		wantTold(t, row(head, 1, five))
		wantTold(t, row(head, 2, half))
		wantTold(t, row(head, 2, ofNaN))
		wantTold(t, row(head, 4, 0))
		wantTold(t, row(head, 4, 1))
		// What is wrong within it is told there.
		wantTold(t, row(head, 4, 2))
		wantTold(t, row(head, 5))
		wantTold(t, row(head, 2, 0x80, 0, 0, 0, 0, 0, 0, 0))
	}
	wantRead(t, row(1, 0, 2, 3, 4, 1, 1, "a", 9, 3, 1, "x"), come(test("a", api.TPrefix, txt("x"))))
}

func TestReadOfAGoneThatIsNone(t *testing.T) {
	for _, b := range [][]byte{{2}, {3}, {0x7f}, {0x80, 1}, {0x81, 1}, most} {
		wantTold(t, row(1, b))
	}
}

func TestReadOfAtomsThatDoNotRise(t *testing.T) {
	with := func(atom int) api.Frame {
		return fall(withStamps(api.Stamp{Atom: 1, N: 5}, api.Stamp{Atom: 300, N: 6}, api.Stamp{Atom: atom, N: 7}))
	}
	for _, atom := range []int{300, 299, 128, 2, 1, 0} {
		wantBadPart(t, with(1000), with(atom))
	}
	for _, atom := range []int{301, 1 << 40, api.MaxNumber} {
		wantRead(t, bytesOf(with(atom)), with(atom))
	}
	wantTold(t, row(6, 3, 4, 5, 6, 7, 0, 2, 0, 1, 0))
	wantTold(t, row(6, 3, 4, 5, 6, 7, 0, 2, 2, 9, 1))
	// An N of none is told behind its Atom.
	wantTold(t, row(6, 3, 4, 5, 6, 7, 0, 1, 0, 0))
}

func TestReadOfSubsThatDoNotRise(t *testing.T) {
	with := func(client, num int) api.Frame {
		return open(sub(2, 7, 300), sub(4, 6, 300), sub(client, 5, num))
	}
	// By Client, told there; by Num of the same Client, told behind Broker.
	for _, bad := range []api.Frame{with(3, 400), with(2, 400), with(1, 1), with(3, 300), with(3, 1)} {
		wantBadPart(t, with(6, bad.Subs[2].Num), bad)
	}
	for _, num := range []int{300, 299, 128, 1} {
		wantBadPart(t, with(4, 301), with(4, num))
	}
	for _, good := range []api.Frame{with(4, 301), with(4, api.MaxNumber), with(5, 1), with(5, 300), with(6, 299)} {
		wantRead(t, bytesOf(good), good)
	}
	wantTold(t, row(4, 5, 2, 2, 0, 1, 0, 1))
	wantTold(t, row(4, 5, 2, 2, 0, 1, 0, 2, 0, 1))
	wantTold(t, row(4, 5, 3, 2, 0, 5, 0, 2, 0, 6, 0, 2, 0, 6))
}

func TestReadOfBytesThatAreLeft(t *testing.T) {
	for _, f := range append(eachKind()[1:], gone(), come(), open(), fall(withStamps()), come(has("a"))) {
		b := bytesOf(f)
		wantRead(t, b, f)
		for _, behind := range [][]byte{{0}, {1}, {0x80}, {0xff}, b} {
			wantError(t, row(b, behind), api.ErrForm)
		}
	}
}

// Of two errors the one that stands further left is told.
func TestReadOfTwoErrors(t *testing.T) {
	head := row(1, 0, 2, 3, 4, 1)
	for _, x := range []struct {
		what string
		b    []byte
		want api.Errno
	}{
		{"none at all", row(), api.ErrShort},
		{"a Kind that is none, and a number cut short", row(9, 0x80), api.ErrForm},
		{"a Kind that is cut short where it could be none no more", row(0x89), api.ErrShort},
		{"a To out of its bounds, and nothing behind", row(7, 8), api.ErrForm},
		{"a To cut short, above its most already", row(7, 0x88), api.ErrShort},
		{"a Client out of its bounds, a Seq cut short", row(8, 7, 7, 0x80), api.ErrForm},
		{"a Seq cut short", row(8, 7, 6, 0x80), api.ErrShort},
		{"a count above its most, and none of them there", row(6, 3, 4, 5, 6, 7, 6), api.ErrForm},
		{"a count that may be, and none of them there", row(6, 3, 4, 5, 6, 7, 5), api.ErrShort},
		{"a Name that is too long, and not there", row(head, 7, "Ab"), api.ErrForm},
		{"a Name that is no word, and cut short", row(head, 3, "AB"), api.ErrShort},
		{"a Name that is no word, and no Test", row(head, 3, "ABC"), api.ErrForm},
		{"a Name that falls, and cut short", row(1, 0, 2, 3, 4, 2, 1, "z", 1, 2, "a"), api.ErrShort},
		{"a Name that falls, and no Test", row(1, 0, 2, 3, 4, 2, 1, "z", 1, 2, "ab"), api.ErrForm},
		{"a Test that is none, and nothing behind", row(head, 1, "a", 11), api.ErrForm},
		{"a V that TPrefix may not have, and cut short", row(head, 1, "a", 9, 1, 0, 0, 0), api.ErrShort},
		{"a V that TPrefix may not have, of which only the Kind is there", row(head, 1, "a", 9, 4), api.ErrShort},
		{"a V that TPrefix may not have, and the next Name missing", row(1, 0, 2, 3, 4, 2, 1, "a", 9, 4, 1), api.ErrForm},
		{"a V of no Kind where TPrefix is", row(head, 1, "a", 9, 5), api.ErrForm},
		{"a V that is -0, and cut short", row(head, 1, "a", 2, 2, 0x80, 0, 0, 0, 0, 0, 0), api.ErrShort},
		{"a V that is -0, and no W", row(head, 1, "a", 8, 2, 0x80, 0, 0, 0, 0, 0, 0, 0), api.ErrForm},
		{"a Set of no values, and the next Name missing", row(1, 0, 2, 3, 4, 2, 1, "a", 10, 0), api.ErrForm},
		{"a Change that is Gone, its preds missing", row(1, 1, 2, 3, 4, 1), api.ErrForm},
		{"a Change that is Gone, how many preds cut short", row(1, 1, 2, 3, 4, 0x81), api.ErrShort},
		{"a Gone that is none, and nothing behind", row(1, 2), api.ErrForm},
		{"a Gone cut short", row(1, 0x82), api.ErrShort},
		{"an Atom that does not rise, and no N", row(6, 3, 4, 5, 6, 7, 0, 2, 3, 1, 3), api.ErrForm},
		{"an N of 0, and the next Atom missing", row(6, 3, 4, 5, 6, 7, 0, 2, 3, 0), api.ErrForm},
		{"a Client below the one ahead, and nothing behind", row(4, 5, 2, 2, 0, 1, 0, 1), api.ErrForm},
		{"a Num below the one ahead, its Broker cut short", row(4, 5, 2, 2, 0, 9, 0, 2, 0x80), api.ErrShort},
		{"a Broker out of its bounds, its Num missing", row(4, 5, 2, 2, 0, 9, 0, 2, 8), api.ErrForm},
		{"a Num below the one ahead, its Filter missing", row(4, 5, 2, 2, 0, 9, 0, 2, 0, 8), api.ErrForm},
		{"bytes left that would be cut short", row(2, 3, 0x80), api.ErrForm},
	} {
		if f, e := wire.Read(x.b); e != x.want || !alike(f, api.Frame{}) {
			t.Errorf("%s: Read(%x): %+v, %d; want %d", x.what, x.b, f, e, x.want)
		}
	}
}

// lists are those of f, each as one that puts other things into all of it, its
// spare room too.
func lists(f *api.Frame) []func() {
	all := []func(){
		func() { spoil(f.Event.Attrs, at("zz", num(99))) },
		func() { spoil(f.Event.Stamps, api.Stamp{Atom: 99, N: 99}) },
		func() { spoil(f.Subs, sub(9, 9, 9)) },
	}
	for _, s := range append([]api.Sub{f.Change.Sub}, f.Subs...) {
		all = append(all, func() { spoil(s.Filter, has("zz")) })
		for _, p := range s.Filter {
			all = append(all, func() { spoil(p.Set, num(99)) })
		}
	}
	return all
}

func spoil[T any](l []T, x T) {
	l = l[:cap(l)]
	for i := range l {
		l[i] = x
	}
}

// R2: b stays as it is, its spare room too; the answer is new memory, each of
// its lists by itself.
func TestReadKeepsNothing(t *testing.T) {
	sets := []api.Pred{in("a", num(1), num(2)), in("b", num(1)), in("c", txt("abc"), txt("d"))}
	for _, f := range append(eachKind()[1:], come(sets...), open(sub(1, 2, 3, sets...), sub(1, 2, 4, sets...), sub(5, 6, 7, sets...))) {
		room := append(bytesOf(f), 1, 2, 3, 4)
		b := room[:len(room)-4]
		before := slices.Clone(room)
		g, e := wire.Read(b)
		wire.Read(b[:len(b)-1])
		if e != api.OK || !bytes.Equal(room, before) {
			t.Fatalf("Read(%x): %d; b is %x now", before, e, room)
		}
		for i := range room {
			room[i] = 'z'
		}
		if !alike(g, f) {
			t.Errorf("Read(%x): %+v, when b is another", before, g)
		}
		for i := range lists(&g) {
			g, _ = wire.Read(before[:len(b)])
			apart := twin(g)
			lists(&g)[i]()
			lists(&apart)[i]()
			if !alike(g, apart) {
				t.Errorf("Read(%x): list %d shares memory with another one: %+v", before, i, g)
			}
		}
	}
}

func TestReadOfAVeryLongOne(t *testing.T) {
	for _, c := range []byte{0, 1, 4, 6, 0x7f, 0x80, 0xff} {
		wantError(t, bytes.Repeat([]byte{c}, 1<<20), api.ErrForm)
	}
	wantError(t, slices.Concat(bytesOf(rise(event())), make([]byte, 1<<20)), api.ErrForm)
}

// 8.4

// dice is a row of numbers that look like chance and are the same each time.
type dice uint64

func (d *dice) below(n int) int {
	*d = *d*6364136223846793005 + 1442695040888963407
	return int(uint64(*d) >> 33 % uint64(n))
}

func (d *dice) number(low, high int) int {
	x := []int{low, low + 1, high, high - 1, d.below(9), 100 + d.below(60), d.below(1 << 20), d.below(1<<30) << d.below(33)}[d.below(8)]
	return min(max(x, low), high)
}

func (d *dice) text(most int, letters string) string {
	var s []byte
	for range d.below(most + 1) {
		s = append(s, letters[d.below(len(letters))])
	}
	return string(s)
}

func (d *dice) word() string { return "abcz"[d.below(4):][:1] + d.text(api.MaxWord-1, "abz") }

func (d *dice) value() api.Value {
	switch d.below(5) {
	case 0:
		return num(int64(d.number(0, highest)) - int64(d.number(0, highest)))
	case 1:
		return fl([]float64{0, negative, nan, 1, -2.5, math.Inf(1), math.Inf(-1), math.MaxFloat64, math.SmallestNonzeroFloat64}[d.below(9)])
	case 2:
		return fl(math.Float64frombits(uint64(d.below(1<<31))<<33 | uint64(d.below(1<<31))))
	case 3:
		return txt(d.text(api.MaxText, "ab\x00\xff"))
	}
	return truth(d.below(2) > 0)
}

func (d *dice) test(name string) api.Pred {
	switch kind := api.THas + d.below(10); kind {
	case api.THas:
		return has(name)
	case api.TRange:
		return between(name, d.value(), d.value())
	case api.TPrefix:
		return test(name, api.TPrefix, txt(d.text(api.MaxText, "ab\xff")))
	case api.TIn:
		var set []api.Value
		for range 1 + d.below(api.MaxSet) {
			set = append(set, d.value())
		}
		return in(name, set...)
	default:
		return test(name, kind, d.value())
	}
}

func (d *dice) sub(client, num int) api.Sub {
	s := sub(client, d.below(api.MaxBrokers), num)
	var names []string
	for range d.below(api.MaxPreds + 1) {
		names = append(names, d.word())
	}
	slices.Sort(names)
	for _, name := range names {
		s.Filter = append(s.Filter, d.test(name))
	}
	return s
}

func (d *dice) event() api.Event {
	e := api.Event{Client: 1 + d.below(api.MaxClients), Broker: d.below(api.MaxBrokers), Seq: d.number(1, api.MaxNumber), Epoch: d.number(0, api.MaxNumber), At: d.number(0, api.MaxNumber)}
	var names []string
	for range d.below(api.MaxAttrs + 1) {
		names = append(names, d.word())
	}
	slices.Sort(names)
	for _, name := range slices.Compact(names) {
		e.Attrs = append(e.Attrs, at(name, d.value()))
	}
	most := 6
	if d.below(50) == 0 {
		most = api.MaxStamps + 1
	}
	var atoms []int
	for range d.below(most) {
		atoms = append(atoms, d.number(0, api.MaxNumber))
	}
	slices.Sort(atoms)
	for _, atom := range slices.Compact(atoms) {
		e.Stamps = append(e.Stamps, api.Stamp{Atom: atom, N: d.number(1, api.MaxNumber)})
	}
	return e
}

func (d *dice) subs() []api.Sub {
	var l []api.Sub
	for client := 1; client <= api.MaxClients; client++ {
		num := 0
		for range d.below(api.MaxSubs+1) * d.below(2) {
			num += 1 + d.below(200)
			l = append(l, d.sub(client, num))
		}
	}
	return l
}

func (d *dice) frame() api.Frame {
	f := api.Frame{Kind: api.FChange + d.below(8)}
	switch f.Kind {
	case api.FChange:
		f.Change.Sub = d.sub(1+d.below(api.MaxClients), d.number(1, api.MaxNumber))
		if d.below(3) == 0 {
			f.Change.Gone, f.Change.Sub.Filter = true, nil
		}
	case api.FStop, api.FQuiet:
		f.Epoch = d.number(0, api.MaxNumber)
	case api.FOpen:
		f.Epoch, f.Subs = d.number(0, api.MaxNumber), d.subs()
	case api.FRise:
		f.To, f.Event = d.below(api.MaxBrokers), d.event()
	case api.FFall:
		f.Event = d.event()
	case api.FDone:
		f.From = d.below(api.MaxBrokers)
		fallthrough
	case api.FPassed:
		f.To, f.Client, f.Seq = d.below(api.MaxBrokers), 1+d.below(api.MaxClients), d.number(1, api.MaxNumber)
	}
	return f
}

// manyFrames are right ones, of all Kinds.
func manyFrames(n int) []api.Frame {
	d := dice(8)
	l := make([]api.Frame, n)
	for i := range l {
		l[i] = d.frame()
	}
	return l
}

// plain is f with -0 as +0, which is what Lay lays.
func plain(f api.Frame) api.Frame {
	f = twin(f)
	for i := range f.Event.Attrs {
		plainly(&f.Event.Attrs[i].V)
	}
	for _, s := range append([]api.Sub{f.Change.Sub}, f.Subs...) {
		for i := range s.Filter {
			plainly(&s.Filter[i].V)
			plainly(&s.Filter[i].W)
			for k := range s.Filter[i].Set {
				plainly(&s.Filter[i].Set[k])
			}
		}
	}
	return f
}

func plainly(v *api.Value) {
	if v.X == 0 {
		v.X = 0
	}
}

func TestReadOfLayOfManyFrames(t *testing.T) {
	for _, f := range manyFrames(3000) {
		b := wire.Lay(f)
		if !wire.Right(f) || !bytes.Equal(b, bytesOf(f)) {
			t.Fatalf("Lay(%+v): %x; want %x", f, b, bytesOf(f))
		}
		g, e := wire.Read(b)
		if e != api.OK || !alike(g, plain(f)) || !wire.Same(g, f) || !wire.Right(g) {
			t.Fatalf("Read(Lay(%+v)): %+v, %d", f, g, e)
		}
		for k := range b {
			wantError(t, b[:k], api.ErrShort)
		}
		wantError(t, row(b, 0), api.ErrForm)
		wantError(t, row(b, 1), api.ErrForm)
	}
}

func TestReadTellsNought(t *testing.T) {
	for _, f := range []api.Frame{
		fall(withAttrs(at("a", fl(negative)))), come(test("a", api.TIs, fl(negative))), come(between("a", fl(negative), fl(negative))),
		come(in("a", num(1), fl(negative))), open(sub1(test("a", api.TLeast, fl(negative)))),
	} {
		wantRead(t, wire.Lay(f), plain(f))
	}
	odd := value.Float(math.Float64frombits(0xfff7ffffffffffff))
	wantRead(t, wire.Lay(come(test("a", api.TIs, odd))), come(test("a", api.TIs, fl(nan))))
}

// near has b with one byte another one, gone, or twice.
func near(b []byte) [][]byte {
	var all [][]byte
	for i, c := range b {
		for _, x := range []byte{0, 1, 9, 0x80, 0xff, c - 1, c + 1, c ^ 0x80} {
			all = append(all, slices.Concat(b[:i], []byte{x}, b[i+1:]))
		}
		all = append(all, slices.Concat(b[:i], b[i+1:]), slices.Concat(b[:i+1], b[i:]))
	}
	return all
}

// Of whatever bytes, Read tells a right frame that Lay lays so, or the error
// of 8.3, read word by word.
func TestReadOfManyBytes(t *testing.T) {
	for _, f := range manyFrames(400) {
		l := near(wire.Lay(f))
		if len(l) > 2000 {
			l = l[:2000]
		}
		for _, b := range l {
			g, e := wire.Read(b)
			if want := told(b); e != want {
				t.Fatalf("Read(%x): %d; want %d", b, e, want)
			}
			if e == api.OK && (!wire.Right(g) || !bytes.Equal(wire.Lay(g), b)) || e != api.OK && !alike(g, api.Frame{}) {
				t.Fatalf("Read(%x): %+v, %d", b, g, e)
			}
		}
	}
}
