package pack_test

import (
	"bytes"
	"encoding/binary"
	"errors"
	"math"
	"math/big"
	"runtime"
	"slices"
	"strings"
	"testing"

	"precentor/api"
	"precentor/float"
	"precentor/pack"
	"precentor/trap"
)

const (
	least  = math.MinInt64
	most   = math.MaxInt64
	oneNaN = 0x7ff8000000000000
)

var (
	inf      = math.Inf(1)
	negative = math.Copysign(0, -1)
)

// numbers are some that Nat tells, edges among them.
func numbers() []int {
	all := []int{0, 1, 2, 300, 0x40, 1<<31 - 1, 1 << 31, 1<<32 + 1, api.MaxNumber - 1, api.MaxNumber}
	for k := 7; k < 62; k += 7 {
		all = append(all, 1<<k-1, 1<<k, 1<<k+1)
	}
	return all
}

// noNumbers are some that Nat does not tell.
var noNumbers = []int{-1, -2, -128, -300, least, least + 1, api.MaxNumber + 1, api.MaxNumber + 128, most}

var ints = []int64{least, least + 1, -1 << 32, -256, -2, -1, 0, 1, 127, 128, 255, 256, 1 << 32, 0x0102030405060708, most - 1, most}

var floats = []float64{
	-inf, -math.MaxFloat64, -2.5, -1, -math.SmallestNonzeroFloat64, negative, 0,
	math.SmallestNonzeroFloat64, 0x1p-1022, 0.1, 1, math.Nextafter(1, 2), 2.5, 1 << 53, math.MaxFloat64, inf,
}

// nanBits are those of NaNs: quiet and signalling ones, of either sign.
var nanBits = []uint64{
	oneNaN, oneNaN + 1, 0x7ff0000000000001, 0x7ff7ffffffffffff, 0x7fffffffffffffff,
	0xfff8000000000000, 0xfff8000000000001, 0xfff0000000000001, 0xffffffffffffffff,
}

// texts are empty, not UTF-8, and of lengths around those that need one more byte to count.
func texts() []string {
	all := []string{"", "\x00", "a", "xyz", "\xff\xfe", "\x80", "\xc3\xa9", "a\x00b", "\xed\xa0\x80"}
	for _, n := range []int{12, 13, 127, 128, 129, 16383, 16384, 1 << 20} {
		all = append(all, strings.Repeat("z", n), strings.Repeat("\xf0", n))
	}
	return all
}

// caught tells what f panics with; nil: it returned.
func caught(f func()) (x any) {
	defer func() { x = recover() }()
	f()
	return nil
}

// row is n bytes c, and behind them the rest.
func row(n int, c byte, rest ...byte) []byte {
	return append(bytes.Repeat([]byte{c}, n), rest...)
}

// put is a call of one of the four, and what it has to lay behind b.
type put struct {
	name string
	call func(b []byte) []byte
	want []byte
}

func puts() []put {
	var all []put
	for _, n := range append(numbers(), noNumbers...) {
		all = append(all, put{"Nat", func(b []byte) []byte { return pack.Nat(b, n) }, slowNat(n)})
	}
	for _, n := range ints {
		want := binary.BigEndian.AppendUint64(nil, uint64(n))
		all = append(all, put{"Int", func(b []byte) []byte { return pack.Int(b, n) }, want})
	}
	for _, x := range floats {
		want := binary.BigEndian.AppendUint64(nil, float.Bits(x))
		all = append(all, put{"Float", func(b []byte) []byte { return pack.Float(b, x) }, want})
	}
	for _, s := range texts() {
		want := append(slowNat(len(s)), s...)
		all = append(all, put{"Text", func(b []byte) []byte { return pack.Text(b, s) }, want})
	}
	return all
}

// slowNat works the bytes of n out digit by digit, of numbers without an end.
func slowNat(n int) []byte {
	if n < 0 || n > api.MaxNumber {
		return nil
	}
	rest, base, digit := big.NewInt(int64(n)), big.NewInt(128), new(big.Int)
	var digits []byte
	for {
		rest.DivMod(rest, base, digit)
		digits = append(digits, byte(digit.Int64()))
		if rest.Sign() == 0 {
			break
		}
	}
	for i := range len(digits) - 1 {
		digits[i] |= 0x80
	}
	return digits
}

// short is the beginning of b, for a message.
func short(b []byte) []byte {
	return b[:min(len(b), 24)]
}

// 4.1

func TestNatByHand(t *testing.T) {
	for _, c := range []struct {
		n    int
		want []byte
	}{
		{0, []byte{0}}, {1, []byte{1}}, {127, []byte{0x7f}},
		{128, []byte{0x80, 0x01}}, {129, []byte{0x81, 0x01}}, {255, []byte{0xff, 0x01}},
		{300, []byte{0xac, 0x02}}, {16383, []byte{0xff, 0x7f}}, {16384, []byte{0x80, 0x80, 0x01}},
		{1<<56 - 1, row(7, 0xff, 0x7f)}, {1 << 56, row(8, 0x80, 0x01)},
		{api.MaxNumber - 1, row(8, 0xff, 0x3f)}, {api.MaxNumber, row(8, 0x80, 0x40)},
	} {
		if got := pack.Nat(nil, c.n); !bytes.Equal(got, c.want) {
			t.Errorf("Nat(none, %d): %x; want %x", c.n, got, c.want)
		}
	}
}

func TestNatOfNoNumber(t *testing.T) {
	for _, n := range noNumbers {
		for _, b := range [][]byte{nil, {}, {0}, {0x80, 0xff, 3}} {
			if got := pack.Nat(b, n); !bytes.Equal(got, b) {
				t.Errorf("Nat(%x, %d): %x; want what was there", b, n, got)
			}
		}
	}
}

func TestIntByHand(t *testing.T) {
	for _, c := range []struct {
		n    int64
		want []byte
	}{
		{0, row(8, 0)}, {1, row(7, 0, 1)}, {255, row(7, 0, 255)}, {256, row(6, 0, 1, 0)},
		{-1, row(8, 255)}, {-2, row(7, 255, 254)}, {-256, row(7, 255, 0)},
		{least, append([]byte{0x80}, row(7, 0)...)}, {most, append([]byte{0x7f}, row(7, 255)...)},
		{0x0102030405060708, []byte{1, 2, 3, 4, 5, 6, 7, 8}},
	} {
		if got := pack.Int(nil, c.n); !bytes.Equal(got, c.want) {
			t.Errorf("Int(none, %d): %x; want %x", c.n, got, c.want)
		}
	}
}

func TestFloatByHand(t *testing.T) {
	for _, c := range []struct {
		x    float64
		want []byte
	}{
		{0, row(8, 0)}, {negative, row(8, 0)},
		{1, append([]byte{0x3f, 0xf0}, row(6, 0)...)}, {-2, append([]byte{0xc0}, row(7, 0)...)},
		{math.Nextafter(1, 2), append([]byte{0x3f, 0xf0}, row(5, 0, 1)...)},
		{math.SmallestNonzeroFloat64, row(7, 0, 1)},
		{-math.SmallestNonzeroFloat64, append([]byte{0x80}, row(6, 0, 1)...)},
		{math.MaxFloat64, append([]byte{0x7f, 0xef}, row(6, 255)...)},
		{inf, append([]byte{0x7f, 0xf0}, row(6, 0)...)}, {-inf, append([]byte{0xff, 0xf0}, row(6, 0)...)},
	} {
		if got := pack.Float(nil, c.x); !bytes.Equal(got, c.want) {
			t.Errorf("Float(none, %v): %x; want %x", c.x, got, c.want)
		}
	}
}

func TestFloatOfEachNaNIsOne(t *testing.T) {
	want := append([]byte{9, 0x7f, 0xf8}, row(6, 0)...)
	for _, bits := range nanBits {
		if got := pack.Float([]byte{9}, math.Float64frombits(bits)); !bytes.Equal(got, want) {
			t.Errorf("Float of the NaN %x: %x; want %x", bits, got, want)
		}
	}
}

func TestTextByHand(t *testing.T) {
	long := strings.Repeat("x", 300)
	for _, c := range []struct {
		s    string
		want []byte
	}{
		{"", []byte{0}}, {"ab", []byte{2, 'a', 'b'}}, {"\x00", []byte{1, 0}},
		{"\xff\x80", []byte{2, 0xff, 0x80}}, {"\xc3\xa9", []byte{2, 0xc3, 0xa9}},
		{long[:127], append([]byte{0x7f}, long[:127]...)},
		{long[:128], append([]byte{0x80, 0x01}, long[:128]...)},
		{long, append([]byte{0xac, 0x02}, long...)},
	} {
		if got := pack.Text(nil, c.s); !bytes.Equal(got, c.want) {
			t.Errorf("Text(none, %q): %x; want %x", c.s, short(got), short(c.want))
		}
	}
}

func TestPutsBehindWhateverBytes(t *testing.T) {
	for _, p := range puts() {
		for _, b := range [][]byte{nil, {}, {0}, {7, 8}, {0x80}, row(1000, 0xff)} {
			want := append(bytes.Clone(b), p.want...)
			if got := p.call(b); !bytes.Equal(got, want) {
				t.Errorf("%s behind %d bytes: %x; want %x", p.name, len(b), short(got), short(want))
			}
		}
	}
}

// R2: neither what was handed in is changed, nor the room behind it, and the
// answer shares neither of them.
func TestPutsLeaveWhatWasHandedIn(t *testing.T) {
	for _, p := range puts() {
		for _, size := range []int{0, 1, 5} {
			for _, room := range []int{0, 1, 8, 9, 64} {
				all := row(size+room, 0x55)
				b := all[:size]
				got := p.call(b)
				want := append(row(size, 0x55), p.want...)
				if !bytes.Equal(got, want) || !bytes.Equal(all, row(size+room, 0x55)) {
					t.Errorf("%s with %d bytes of room: %x, left %x", p.name, room, short(got), all)
				}
				wipe(got)
				if !bytes.Equal(all, row(size+room, 0x55)) {
					t.Errorf("%s with %d bytes of room shares memory with its answer", p.name, room)
				}
			}
		}
	}
}

// wipe overwrites b and the room behind it.
func wipe(b []byte) {
	b = b[:cap(b)]
	for i := range b {
		b[i] = 0xee
	}
}

func TestTwoAnswersShareNothing(t *testing.T) {
	for _, p := range puts() {
		b := make([]byte, 3, 64)
		one, two := p.call(b), p.call(b)
		wipe(one)
		if want := append(row(3, 0), p.want...); !bytes.Equal(two, want) {
			t.Errorf("%s: the second answer is %x; want %x", p.name, short(two), short(want))
		}
		// A longer one behind an answer leaves that answer's room to it.
		again := p.call(two)
		wipe(again)
		if want := append(row(3, 0), p.want...); !bytes.Equal(two, want) {
			t.Errorf("%s behind itself turned what was there: %x", p.name, short(two))
		}
	}
}

// 4.2

// wantStop runs f within a Read of b: it has to Stop with e, and take nothing.
func wantStop(t *testing.T, name string, b []byte, e api.Errno, f func(r *pack.Reader)) {
	t.Helper()
	got := pack.Read(b, func(r *pack.Reader) {
		x := caught(func() { f(r) })
		if x != any(e) || r.Left() != len(b) {
			t.Errorf("%s of %x panics with %T %v, left %d of %d; want %d", name, short(b), x, x, r.Left(), len(b), e)
		}
		f(r)
		t.Errorf("%s of %x went on behind its Stop", name, short(b))
	})
	if got != e {
		t.Errorf("Read of a %s of %x: %d; want %d", name, short(b), got, e)
	}
}

func takeNat(r *pack.Reader)   { r.Nat() }
func takeInt(r *pack.Reader)   { r.Int() }
func takeFloat(r *pack.Reader) { r.Float() }

func takeText(most int) func(r *pack.Reader) {
	return func(r *pack.Reader) { r.Text(most) }
}

func TestNatTakesWhatNatTold(t *testing.T) {
	for _, want := range numbers() {
		b := pack.Nat(nil, want)
		for _, behind := range [][]byte{nil, {0}, {0x80}, row(20, 0xff)} {
			got, left := -1, -1
			pack.Read(append(bytes.Clone(b), behind...), func(r *pack.Reader) {
				got = r.Nat()
				left = r.Left()
			})
			if got != want || left != len(behind) {
				t.Errorf("Nat of %x is %d, left %d; want %d, %d", b, got, left, want, len(behind))
			}
		}
	}
}

func TestNatCutShort(t *testing.T) {
	for _, n := range numbers() {
		b := pack.Nat(nil, n)
		for k := range b {
			wantStop(t, "Nat", b[:k], api.ErrShort, takeNat)
		}
	}
	for k := range 9 {
		wantStop(t, "Nat", row(k, 0xff), api.ErrShort, takeNat)
		wantStop(t, "Nat", row(k, 0x80), api.ErrShort, takeNat)
	}
}

func TestNatOfNineBytesWithTheirHighestBit(t *testing.T) {
	for _, c := range []byte{0x80, 0x81, 0xc0, 0xff} {
		for _, behind := range [][]byte{nil, {0}, {1}, {0x7f}, {0x80}, row(9, 0xff)} {
			wantStop(t, "Nat", append(row(9, c), behind...), api.ErrForm, takeNat)
		}
	}
}

func TestNatOfMoreBytesThanWouldDo(t *testing.T) {
	for k := 1; k <= 8; k++ {
		for _, c := range []byte{0x80, 0x81, 0xff} {
			wantStop(t, "Nat", row(k, c, 0), api.ErrForm, takeNat)
			wantStop(t, "Nat", row(k, c, 0, 1, 2), api.ErrForm, takeNat)
		}
	}
}

func TestNatAboveMaxNumber(t *testing.T) {
	wantStop(t, "Nat", append([]byte{0x81}, row(7, 0x80, 0x40)...), api.ErrForm, takeNat)
	wantStop(t, "Nat", row(8, 0x80, 0x41), api.ErrForm, takeNat)
	wantStop(t, "Nat", row(8, 0x80, 0x60), api.ErrForm, takeNat)
	wantStop(t, "Nat", row(8, 0xff, 0x40), api.ErrForm, takeNat)
	wantStop(t, "Nat", row(8, 0xff, 0x7f), api.ErrForm, takeNat)
	wantStop(t, "Nat", row(8, 0xff, 0x7f, 0), api.ErrForm, takeNat)
}

// slowTake tells what Nat answers of b: the words of 4.2, one by one.
func slowTake(b []byte) (n, size int, e api.Errno) {
	set := 0
	for set < len(b) && b[set] >= 0x80 {
		set++
	}
	switch {
	case set >= 9:
		return 0, 0, api.ErrForm
	case set == len(b):
		return 0, 0, api.ErrShort
	case set > 0 && b[set] == 0:
		return 0, 0, api.ErrForm
	}
	sum := new(big.Int)
	for i := set; i >= 0; i-- {
		sum.Lsh(sum, 7)
		sum.Add(sum, big.NewInt(int64(b[i]&0x7f)))
	}
	if sum.Cmp(big.NewInt(api.MaxNumber)) > 0 {
		return 0, 0, api.ErrForm
	}
	return int(sum.Int64()), set + 1, api.OK
}

func wantTaken(t *testing.T, b []byte) {
	t.Helper()
	n, size, e := slowTake(b)
	var got, left int
	var gotErr api.Errno
	pack.Read(b, func(r *pack.Reader) {
		gotErr = trap.Run(func() { got = r.Nat() })
		left = r.Left()
	})
	if got != n || gotErr != e || left != len(b)-size {
		t.Errorf("Nat of %x: %d, %d, left %d; want %d, %d, %d", b, got, gotErr, left, n, e, len(b)-size)
	}
	// What it takes, Nat told: no other bytes make the same number.
	if e == api.OK && !bytes.Equal(pack.Nat(nil, got), b[:size]) {
		t.Errorf("Nat takes %d of %x, and tells %x", got, b[:size], pack.Nat(nil, got))
	}
}

func TestNatOfAllShortBytes(t *testing.T) {
	for a := range 256 {
		wantTaken(t, []byte{byte(a)})
		for b := range 256 {
			wantTaken(t, []byte{byte(a), byte(b)})
		}
	}
}

func TestNatOfEdgesInARow(t *testing.T) {
	edges := []byte{0, 1, 0x3f, 0x40, 0x41, 0x7f, 0x80, 0x81, 0xff}
	for head := range 9 {
		for _, c := range []byte{0x80, 0xff} {
			for _, x := range edges {
				for _, y := range edges {
					for _, z := range edges {
						wantTaken(t, row(head, c, x, y, z))
					}
				}
			}
		}
	}
}

func TestIntTakesWhatIntTold(t *testing.T) {
	for _, want := range ints {
		var got int64
		left := -1
		pack.Read(append(pack.Int(nil, want), 5, 6), func(r *pack.Reader) {
			got = r.Int()
			left = r.Left()
		})
		if got != want || left != 2 {
			t.Errorf("Int is %d, left %d; want %d, 2", got, left, want)
		}
	}
}

func TestIntOfTooFewBytes(t *testing.T) {
	for k := range 8 {
		for _, c := range []byte{0, 1, 0xff} {
			wantStop(t, "Int", row(k, c), api.ErrShort, takeInt)
		}
	}
}

func TestFloatTakesWhatFloatTold(t *testing.T) {
	all := slices.Clone(floats)
	for _, bits := range nanBits {
		all = append(all, math.Float64frombits(bits))
	}
	for _, x := range all {
		var got float64
		left := -1
		pack.Read(append(pack.Float(nil, x), 5, 6), func(r *pack.Reader) {
			got = r.Float()
			left = r.Left()
		})
		// To the bit: -0 comes back as +0, each NaN as the one.
		if math.Float64bits(got) != float.Bits(x) || left != 2 {
			t.Errorf("Float of %v is %v (%x), left %d", x, got, math.Float64bits(got), left)
		}
	}
}

func TestFloatOfTooFewBytes(t *testing.T) {
	for k := range 8 {
		for _, c := range []byte{0, 0x7f, 0xff} {
			// Bits that are none, too: too few comes first.
			wantStop(t, "Float", row(k, c), api.ErrShort, takeFloat)
		}
	}
}

func TestFloatOfBitsThatAreNone(t *testing.T) {
	for _, bits := range append([]uint64{1 << 63}, nanBits[1:]...) {
		b := binary.BigEndian.AppendUint64(nil, bits)
		wantStop(t, "Float", b, api.ErrForm, takeFloat)
		wantStop(t, "Float", append(b, 0, 1, 2), api.ErrForm, takeFloat)
	}
}

func TestTextTakesWhatTextTold(t *testing.T) {
	for _, want := range texts() {
		b := append(pack.Text(nil, want), 5, 6)
		for _, bound := range []int{len(want), len(want) + 1, most} {
			got, left := "none", -1
			pack.Read(b, func(r *pack.Reader) {
				got = r.Text(bound)
				left = r.Left()
			})
			if got != want || left != 2 {
				t.Errorf("Text of %d bytes, at most %d: %d bytes, left %d", len(want), bound, len(got), left)
			}
		}
		if want != "" {
			for _, bound := range []int{len(want) - 1, 0, -1, least} {
				wantStop(t, "Text", b, api.ErrForm, takeText(bound))
			}
		}
	}
}

func TestTextOfNoneOfAnyMost(t *testing.T) {
	for _, bound := range []int{least, -9, -1, 0, 1, most} {
		got := "none"
		e := pack.Read([]byte{0}, func(r *pack.Reader) { got = r.Text(bound) })
		if e != api.OK || got != "" {
			t.Errorf("Text(%d) of 00: %q, %d", bound, got, e)
		}
	}
}

func TestTextOfACountBeyondWhatIsLeft(t *testing.T) {
	for _, n := range []int{1, 4, 127, 128, 1 << 31, 1 << 32, 1 << 61, api.MaxNumber} {
		count := pack.Nat(nil, n)
		for _, left := range []int{0, 1, 3} {
			if left >= n {
				continue
			}
			b := append(bytes.Clone(count), row(left, 'x')...)
			wantStop(t, "Text", b, api.ErrShort, takeText(n))
			wantStop(t, "Text", b, api.ErrShort, takeText(most))
			// More than most bytes comes ahead of too few.
			wantStop(t, "Text", b, api.ErrForm, takeText(n-1))
			wantStop(t, "Text", b, api.ErrForm, takeText(-1))
		}
	}
	wantStop(t, "Text", []byte{3, 'a', 'b'}, api.ErrShort, takeText(3))
}

func TestTextOfACountThatIsNone(t *testing.T) {
	for _, bound := range []int{-1, 0, 3, most} {
		wantStop(t, "Text", nil, api.ErrShort, takeText(bound))
		wantStop(t, "Text", []byte{0x80}, api.ErrShort, takeText(bound))
		wantStop(t, "Text", row(8, 0xff), api.ErrShort, takeText(bound))
		wantStop(t, "Text", []byte{0x80, 0}, api.ErrForm, takeText(bound))
		wantStop(t, "Text", []byte{0x82, 0, 'a', 'b'}, api.ErrForm, takeText(bound))
		wantStop(t, "Text", row(9, 0xff), api.ErrForm, takeText(bound))
		wantStop(t, "Text", row(8, 0xff, 0x7f), api.ErrForm, takeText(bound))
	}
}

func TestOneBehindTheOther(t *testing.T) {
	b := pack.Nat(nil, 300)
	b = pack.Text(b, "x\xff")
	b = pack.Int(b, least)
	b = pack.Float(b, negative)
	b = pack.Nat(b, api.MaxNumber)
	b = pack.Text(b, "")
	b = pack.Float(b, math.NaN())
	b = pack.Int(b, -7)
	var left []int
	e := pack.Read(b, func(r *pack.Reader) {
		note := func(ok bool, what string) {
			left = append(left, r.Left())
			if !ok {
				t.Errorf("%s is another one, with %d left", what, r.Left())
			}
		}
		note(true, "nothing")
		note(r.Nat() == 300, "300")
		note(r.Text(2) == "x\xff", "the text")
		note(r.Int() == least, "the least")
		note(math.Float64bits(r.Float()) == 0, "nought")
		note(r.Nat() == api.MaxNumber, "MaxNumber")
		note(r.Text(0) == "", "no text")
		note(math.Float64bits(r.Float()) == oneNaN, "NaN")
		note(r.Int() == -7, "-7")
	})
	if want := []int{47, 45, 42, 34, 26, 17, 16, 8, 0}; e != api.OK || !slices.Equal(left, want) {
		t.Errorf("Read: %d, left %v; want %v", e, left, want)
	}
}

// A Reader whose method Stopped goes on where it was.
func TestWhatStopsHasTakenNothing(t *testing.T) {
	b := []byte{1, 3, 'a', 'b'}
	e := pack.Read(b, func(r *pack.Reader) {
		if n := r.Nat(); n != 1 {
			t.Errorf("Nat: %d", n)
		}
		for _, c := range []struct {
			name string
			f    func(r *pack.Reader)
			want api.Errno
		}{
			{"Int", takeInt, api.ErrShort}, {"Float", takeFloat, api.ErrShort},
			{"Text(2)", takeText(2), api.ErrForm}, {"Text(3)", takeText(3), api.ErrShort},
		} {
			for range 2 {
				if e := trap.Run(func() { c.f(r) }); e != c.want || r.Left() != 3 {
					t.Errorf("%s: %d, left %d; want %d, 3", c.name, e, r.Left(), c.want)
				}
			}
		}
		if x, y, z := r.Nat(), r.Nat(), r.Nat(); x != 3 || y != 'a' || z != 'b' {
			t.Errorf("behind the Stops: %d, %d, %d", x, y, z)
		}
		for _, f := range []func(r *pack.Reader){takeNat, takeInt, takeFloat, takeText(5)} {
			if e := trap.Run(func() { f(r) }); e != api.ErrShort || r.Left() != 0 {
				t.Errorf("at the end: %d, left %d", e, r.Left())
			}
		}
	})
	if e != api.OK {
		t.Errorf("Read: %d", e)
	}
}

func TestWhatFloatRefusesIntTakes(t *testing.T) {
	var got int64
	e := pack.Read(append([]byte{0x80}, row(7, 0)...), func(r *pack.Reader) {
		if e := trap.Run(func() { r.Float() }); e != api.ErrForm {
			t.Errorf("Float of -0's bits: %d", e)
		}
		got = r.Int()
	})
	if e != api.OK || got != least {
		t.Errorf("Int: %d, %d", got, e)
	}
}

// The room behind b is none of its bytes.
func TestReaderEndsWhereItsBytesEnd(t *testing.T) {
	all := pack.Nat(pack.Text(pack.Float(pack.Int(pack.Nat(nil, 300), 1), 1), "abc"), 1)
	take := func(r *pack.Reader) {
		r.Nat()
		r.Int()
		r.Float()
		r.Text(3)
		r.Nat()
	}
	if e := pack.Read(all, take); e != api.OK {
		t.Errorf("Read: %d", e)
	}
	for k := range all {
		if e := pack.Read(all[:k], take); e != api.ErrShort {
			t.Errorf("Read, cut at %d: %d", k, e)
		}
	}
}

// R2: b and the room behind it stay; a text shares nothing with b.
func TestReadLeavesWhatWasHandedIn(t *testing.T) {
	all := pack.Text(pack.Int(pack.Nat(nil, 300), -1), "abcdef")
	before := bytes.Clone(all)
	var s string
	e := pack.Read(all[:len(all):cap(all)], func(r *pack.Reader) {
		r.Nat()
		r.Int()
		s = r.Text(6)
	})
	if e != api.OK || !bytes.Equal(all, before) {
		t.Errorf("Read: %d, what was handed in is %x; want %x", e, all, before)
	}
	if e := pack.Read(all[:3], takeNat); e != api.ErrForm || !bytes.Equal(all, before) {
		t.Errorf("Read: %d, behind it is %x; want %x", e, all, before)
	}
	wipe(all)
	if s != "abcdef" {
		t.Errorf("the text turned into %q", s)
	}
}

// 4.3

func TestReadOfOneThatTakesAll(t *testing.T) {
	calls := 0
	e := pack.Read([]byte{0xac, 2, 5}, func(r *pack.Reader) {
		calls++
		if r.Left() != 3 {
			t.Errorf("it begins with %d left", r.Left())
		}
		r.Nat()
		r.Nat()
	})
	if e != api.OK || calls != 1 {
		t.Errorf("Read: %d, %d calls", e, calls)
	}
}

func TestReadOfOneThatLeavesSome(t *testing.T) {
	for k := 1; k < 4; k++ {
		if e := pack.Read(row(1+k, 1), takeNat); e != api.ErrForm {
			t.Errorf("Read, with %d left: %d", k, e)
		}
	}
	if e := pack.Read([]byte{0}, func(r *pack.Reader) {}); e != api.ErrForm {
		t.Errorf("Read of one that takes nothing: %d", e)
	}
	// Its own Stop, caught inside, is no error of f's.
	if e := pack.Read([]byte{0x80}, func(r *pack.Reader) { trap.Run(func() { r.Nat() }) }); e != api.ErrForm {
		t.Errorf("Read of one that catches its Stop: %d", e)
	}
}

func TestReadOfTheExamples(t *testing.T) {
	if e := pack.Read([]byte{0x80}, takeNat); e != api.ErrShort {
		t.Errorf("Read(80): %d", e)
	}
	if e := pack.Read([]byte{0x80, 0}, takeNat); e != api.ErrForm {
		t.Errorf("Read(80 00): %d", e)
	}
}

func TestReadOfOneThatStops(t *testing.T) {
	for _, want := range []api.Errno{
		api.ErrArg, api.ErrShort, api.ErrForm, api.ErrNone, api.ErrHeld,
		api.ErrFull, api.ErrBusy, api.ErrSpent, -1, 99,
	} {
		for _, b := range [][]byte{nil, {1}, {1, 2}} {
			behind := false
			stop := pack.Read(b, func(r *pack.Reader) {
				trap.Stop(want)
				behind = true
			})
			need := pack.Read(b, func(r *pack.Reader) {
				trap.Need(true, api.ErrHeld)
				trap.Need(false, want)
				behind = true
			})
			// With nothing left, and with something: f's error comes first.
			late := pack.Read(b, func(r *pack.Reader) {
				for r.Left() > 0 {
					r.Nat()
				}
				trap.Stop(want)
			})
			if stop != want || need != want || late != want || behind {
				t.Errorf("Read of %x: Stop %d, Need %d, late %d, went on %t; want %d", b, stop, need, late, behind, want)
			}
		}
	}
}

func TestReadOfOneThatStopsWithOK(t *testing.T) {
	stops := func(r *pack.Reader) { trap.Stop(api.OK) }
	throws := func(r *pack.Reader) { panic(api.OK) }
	for _, f := range []func(r *pack.Reader){stops, throws} {
		if e := pack.Read(nil, f); e != api.OK {
			t.Errorf("Read of none: %d", e)
		}
		if e := pack.Read([]byte{1}, f); e != api.ErrForm {
			t.Errorf("Read of a byte: %d", e)
		}
	}
}

func TestReadOfANilFunction(t *testing.T) {
	for _, c := range []struct {
		b    []byte
		want api.Errno
	}{{nil, api.OK}, {[]byte{}, api.OK}, {[]byte{0}, api.ErrForm}, {row(100, 1), api.ErrForm}} {
		var e api.Errno
		x := caught(func() { e = pack.Read(c.b, nil) })
		if x != nil || e != c.want {
			t.Errorf("Read(%d bytes, nil): %d, panics with %v; want %d", len(c.b), e, x, c.want)
		}
	}
}

func TestReadOfNoBytes(t *testing.T) {
	for _, b := range [][]byte{nil, {}, row(9, 1)[:0]} {
		calls, left := 0, -1
		e := pack.Read(b, func(r *pack.Reader) {
			calls++
			left = r.Left()
		})
		if e != api.OK || calls != 1 || left != 0 {
			t.Errorf("Read of none: %d, %d calls, left %d", e, calls, left)
		}
		for _, f := range []func(r *pack.Reader){takeNat, takeInt, takeFloat, takeText(0), takeText(5)} {
			if e := pack.Read(b, f); e != api.ErrShort {
				t.Errorf("Read of none, by one that takes: %d", e)
			}
		}
	}
}

func TestReadLetsOtherPanicsGoOn(t *testing.T) {
	e := api.ErrForm
	for _, v := range []any{"text", 0, int(api.ErrForm), 2.5, &e, errors.New("an error")} {
		for _, b := range [][]byte{nil, {1}} {
			answered := false
			x := caught(func() {
				pack.Read(b, func(r *pack.Reader) { panic(v) })
				answered = true
			})
			if x != v || answered {
				t.Errorf("out of Read goes %T %v; want %T %v", x, x, v, v)
			}
		}
	}
	var none []int
	x := caught(func() { pack.Read(nil, func(r *pack.Reader) { none[r.Left()]++ }) })
	if _, ok := x.(runtime.Error); !ok {
		t.Errorf("an index out of range goes on as %T %v", x, x)
	}
}

func TestReadAnswersBehindWhatWasDeferred(t *testing.T) {
	done := false
	e := pack.Read([]byte{0x80}, func(r *pack.Reader) {
		defer func() { done = true }()
		r.Nat()
	})
	if e != api.ErrShort || !done {
		t.Errorf("Read: %d; deferred done: %t", e, done)
	}
}

// R7: a Reader knows nothing of another one.
func TestReadInRead(t *testing.T) {
	var inner api.Errno
	var got []int
	outer := pack.Read([]byte{1, 2}, func(r *pack.Reader) {
		got = append(got, r.Nat())
		inner = pack.Read([]byte{3, 0x80}, func(q *pack.Reader) {
			got = append(got, q.Nat(), r.Nat(), q.Left(), r.Left())
			q.Nat()
		})
	})
	if inner != api.ErrShort || outer != api.OK || !slices.Equal(got, []int{1, 3, 2, 1, 0}) {
		t.Errorf("inner %d, outer %d, %v", inner, outer, got)
	}
}

// R4: nothing is kept from one Read to the next.
func TestReadAgain(t *testing.T) {
	b := []byte{0xac, 2}
	for range 3 {
		got := 0
		if e := pack.Read(b, func(r *pack.Reader) { got = r.Nat() }); e != api.OK || got != 300 {
			t.Errorf("Read: %d, %d", got, e)
		}
		if e := pack.Read(b[:1], takeNat); e != api.ErrShort {
			t.Errorf("Read, cut short: %d", e)
		}
	}
}
