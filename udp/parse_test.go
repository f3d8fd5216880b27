package udp

import (
	"bytes"
	"testing"

	"underpass/api"
)

// faults are all that Parse may find, in the order in which it tells them.
var faults = []struct {
	name string
	code api.Errno
	make func(b []byte) []byte
}{
	{"seven bytes", api.ErrShort, func(b []byte) []byte { return b[:7:7] }},
	{"seven bytes in all", api.ErrForm, func(b []byte) []byte { return saying(b, 7) }},
	{"more bytes in all than there are", api.ErrShort, func(b []byte) []byte { return saying(b, len(b)+1) }},
	{"another sum", api.ErrSum, func(b []byte) []byte { b = bytes.Clone(b); b[7] ^= 1; return b }},
}

// saying is bytes that say that they are n in all, with the sum that they have
// then, all of them.
func saying(b []byte, n int) []byte {
	b = bytes.Clone(b)
	b[4], b[5] = byte(n>>8), byte(n)
	seal(b, one, two)
	return b
}

// cut is bytes that say that they are n in all, with the sum of the first n.
func cut(b []byte, n int) []byte {
	b = saying(b, n)
	seal(b[:n], one, two)
	return b
}

func TestParseOfOneFault(t *testing.T) {
	for i, f := range faults {
		b := f.make(told(ordinary(1, 2, 3, 4, 5, 6, 7), one, two))
		if i == 0 {
			wantNoHead(t, f.name, b)
			continue
		}
		wantNone(t, f.name, b, one, two, f.code)
	}
}

// Of all faults that a datagram has the first one is told. Two of them are of
// one field, of which a datagram can have one alone.
func TestParseTellsTheFirstFault(t *testing.T) {
	for set := 1; set < 1<<len(faults); set++ {
		if set>>1&1 == 1 && set>>2&1 == 1 {
			continue
		}
		first, b := -1, told(ordinary(1, 2, 3, 4, 5, 6, 7), one, two)
		for _, i := range []int{1, 2, 3, 0} { // the head is cut last, as it is whole for the others
			if set>>i&1 == 1 {
				b = faults[i].make(b)
				if first < 0 || i < first {
					first = i
				}
			}
		}
		if first == 0 {
			wantNoHead(t, faults[first].name+", and others", b)
		} else {
			wantNone(t, faults[first].name+", and others", b, one, two, faults[first].code)
		}
	}
}

func TestParseOfBytesThatEndTooEarly(t *testing.T) {
	for _, c := range datagrams {
		b := told(c.datagram, c.src, c.dst)
		for n := range 8 {
			wantNoHead(t, c.name, bytes.Clone(b[:n]))
			// What stands behind the end, in its room, is none of its bytes.
			wantNoHead(t, c.name+", with more behind", b[:n])
			wantNoHead(t, "noughts", make([]byte, n))
			wantNoHead(t, "FF", bytes.Repeat([]byte{0xFF}, n))
		}
		for n := 8; n < len(b) && n < 40; n++ {
			wantNone(t, c.name, bytes.Clone(b[:n]), c.src, c.dst, api.ErrShort)
			wantNone(t, c.name+", with more behind", b[:n], c.src, c.dst, api.ErrShort)
		}
	}
	wantNoHead(t, "nil", nil)
}

func TestParseOfEachSizeThatADatagramTells(t *testing.T) {
	d := ordinary(1, 2, 3, 4, 5, 6, 7, 8, 9, 10)
	b := told(d, one, two)
	for n := range 1 << 16 {
		switch {
		case n < 8:
			wantNone(t, "fewer than eight bytes in all", saying(b, n), one, two, api.ErrForm)
		case n > 18:
			wantNone(t, "more bytes in all than there are", saying(b, n), one, two, api.ErrShort)
		default:
			wantDatagram(t, "as many as there are, or fewer", cut(b, n), one, two, ordinary(d.B[:n-8]...))
		}
	}
}

// A plain one says how many bytes it has in all, too, and nothing else may be
// wrong with it.
func TestParseOfEachSizeThatAPlainOneTells(t *testing.T) {
	for n := range 1 << 16 {
		b := []byte{0x11, 0x12, 0x21, 0x22, byte(n >> 8), byte(n), 0, 0, 1, 2, 3}
		switch {
		case n < 8:
			wantNone(t, "fewer than eight bytes in all", b, one, two, api.ErrForm)
		case n > 11:
			wantNone(t, "more bytes in all than there are", b, one, two, api.ErrShort)
		default:
			wantDatagram(t, "as many as there are, or fewer", b, one, two, Datagram{0x1112, 0x2122, true, b[8:n]})
		}
	}
}

func TestParseOfEachSum(t *testing.T) {
	for _, c := range datagrams {
		if len(c.datagram.B) > 100 {
			continue
		}
		b := told(c.datagram, c.src, c.dst)
		sealed, plain := c.datagram, c.datagram
		sealed.Plain, plain.Plain = false, true
		for n := range 1 << 16 {
			b[6], b[7] = byte(n>>8), byte(n)
			switch n {
			case 0:
				wantDatagram(t, c.name+" without a sum", b, c.src, c.dst, plain)
			case right(b, c.src, c.dst):
				wantDatagram(t, c.name+" with its sum", b, c.src, c.dst, sealed)
			default:
				wantNone(t, c.name+" with another sum", b, c.src, c.dst, api.ErrSum)
			}
		}
	}
}

// With FFFF a datagram has the sum that would be 0; with 0 it has none.
func TestParseOfASumThatWouldBe0(t *testing.T) {
	b := []byte{0xEB, 0xD9, 0, 2, 0, 8, 0xFF, 0xFF}
	wantDatagram(t, "FFFF", b, one, two, Datagram{0xEBD9, 2, false, nil})
	wantNone(t, "FFFF, from another address", b, one+1, two, api.ErrSum)
	b[6], b[7] = 0, 0
	wantDatagram(t, "0", b, one, two, Datagram{0xEBD9, 2, true, nil})
	wantDatagram(t, "0, from another address", b, one+1, two, Datagram{0xEBD9, 2, true, nil})
}

func TestParseBetweenOtherAddresses(t *testing.T) {
	for _, c := range datagrams {
		b := told(c.datagram, c.src, c.dst)
		for bit := range 32 {
			if src, dst := c.src^1<<bit, c.dst^1<<bit; c.datagram.Plain {
				wantDatagram(t, c.name+" from another address", b, src, c.dst, c.datagram)
				wantDatagram(t, c.name+" to another address", b, c.src, dst, c.datagram)
			} else {
				wantNone(t, c.name+" from another address", b, src, c.dst, api.ErrSum)
				wantNone(t, c.name+" to another address", b, c.src, dst, api.ErrSum)
			}
		}
	}
}

// A sum does not tell the addresses from each other, and so the other way round
// a datagram is as valid.
func TestParseBetweenTheAddressesTheOtherWayRound(t *testing.T) {
	for _, c := range datagrams {
		wantDatagram(t, c.name, told(c.datagram, c.src, c.dst), c.dst, c.src, c.datagram)
	}
}

// A bit that is another one is always found, but in a plain datagram, where only
// what it says of its size, and that it has no sum, are looked at.
func TestParseOfEachBitTurned(t *testing.T) {
	for _, c := range datagrams {
		if len(c.datagram.B) > 100 {
			continue
		}
		size := 8 + len(c.datagram.B)
		for bit := range size * 8 {
			b := told(c.datagram, c.src, c.dst)
			b[bit/8] ^= 1 << (bit % 8)
			switch says := int(b[4])<<8 | int(b[5]); {
			case says < 8:
				wantNone(t, c.name, b, c.src, c.dst, api.ErrForm)
			case says > size:
				wantNone(t, c.name, b, c.src, c.dst, api.ErrShort)
			case bit/8 == 6 || bit/8 == 7 || !c.datagram.Plain:
				wantNone(t, c.name, b, c.src, c.dst, api.ErrSum)
			default:
				want := Datagram{uint16(b[0])<<8 | uint16(b[1]), uint16(b[2])<<8 | uint16(b[3]), true, b[8:says]}
				wantDatagram(t, c.name, b, c.src, c.dst, want)
			}
		}
	}
}

// The sum is that of the bytes that the datagram says that it has, whatever
// stands behind them.
func TestParseOfBytesWithOthersBehind(t *testing.T) {
	for _, more := range [][]byte{{0}, {1}, {0xFF}, make([]byte, 26), bytes.Repeat([]byte{0x45, 0, 0, 20}, 9), make([]byte, 70000)} {
		for _, c := range datagrams {
			wantDatagram(t, c.name, append(told(c.datagram, c.src, c.dst), more...), c.src, c.dst, c.datagram)
		}
		for _, f := range faults {
			if f.code != api.ErrShort {
				b := f.make(told(ordinary(1, 2, 3, 4, 5, 6, 7), one, two))
				wantNone(t, f.name, append(b, more...), one, two, f.code)
			}
		}
	}
	b := told(ordinary(1, 2, 3), one, two)
	wantNone(t, "the sum of all bytes, where there are others behind", saying(append(b, 1), 11), one, two, api.ErrSum)
}

// Parse takes what says that it has more than Bytes writes, since no word of
// F1 refuses it.
func TestParseOfTheLargestDatagrams(t *testing.T) {
	for _, size := range []int{65515, 65516, 65535} {
		for _, plain := range []bool{false, true} {
			d := ordinary(bytes.Repeat([]byte{1, 2, 3, 4, 5}, 13106)[:size-8]...)
			d.Plain = plain
			b := told(d, one, two)
			wantDatagram(t, "a large one", b, one, two, d)
			wantDatagram(t, "a large one, and more behind", append(b, b...), one, two, d)
			wantNone(t, "a large one that ends too early", b[:size-1], one, two, api.ErrShort)
		}
	}
}

// What is no fault of a datagram is not told as one.
func TestAnotherPanicGoesOn(t *testing.T) {
	defer func() {
		if met := recover(); met != "another" {
			t.Fatalf("got %v", met)
		}
	}()
	d, err := untilWrong(func() Datagram { panic("another") })
	t.Fatalf("got %+v, %v", d, err)
}

func FuzzParse(f *testing.F) {
	for _, c := range datagrams {
		f.Add(told(c.datagram, c.src, c.dst), uint32(c.src), uint32(c.dst), true)
	}
	for _, x := range faults {
		f.Add(x.make(told(ordinary(1, 2, 3, 4, 5, 6, 7), one, two)), uint32(one), uint32(two), false)
	}
	f.Fuzz(func(t *testing.T, b []byte, from, to uint32, seals bool) {
		src, dst := api.IP(from), api.IP(to)
		if seals && len(b) >= 8 {
			b = bytes.Clone(b)
			b[4], b[5] = byte(len(b)>>8), byte(len(b))
			seal(b, src, dst)
		}
		d, err := Parse(b, src, dst)
		if err != nil {
			if !same(d, Datagram{}) {
				t.Fatalf("% X: %+v beside %v", b, d, err)
			}
			return
		}
		got, err := d.Bytes(src, dst)
		if size := 8 + len(d.B); size > 65515 {
			wantError(t, "a large one", err, api.ErrBig)
			return
		}
		if err != nil || !bytes.Equal(got, b[:len(got)]) {
			t.Fatalf("% X came back as % X, %v", b, got, err)
		}
		wantDatagram(t, "what was written", got, src, dst, d)
	})
}
