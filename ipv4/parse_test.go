package ipv4

import (
	"bytes"
	"testing"

	"underpass/api"
)

// faults are all that Parse may find, in the order in which it tells them; the
// sum comes behind what is sealed.
var faults = []struct {
	name string
	code api.Errno
	make func(b []byte) []byte
}{
	{"nineteen bytes", api.ErrShort, func(b []byte) []byte { return b[:19:19] }},
	{"version 6", api.ErrProto, func(b []byte) []byte { return sealed(b, 0, 0x60|b[0]&0x0F) }},
	{"four words", api.ErrForm, func(b []byte) []byte { return sealed(b, 0, b[0]&0xF0|4) }},
	{"six words", api.ErrOption, func(b []byte) []byte { return sealed(b, 0, b[0]&0xF0|6) }},
	{"nineteen bytes in all", api.ErrForm, func(b []byte) []byte { return sealed(b, 2, 0, 19) }},
	{"more bytes in all than there are", api.ErrShort, func(b []byte) []byte { return sealed(b, 2, byte((len(b)+1)>>8), byte(len(b)+1)) }},
	{"another sum", api.ErrSum, func(b []byte) []byte { b = bytes.Clone(b); b[11] ^= 1; return b }},
	{"the highest flag", api.ErrForm, func(b []byte) []byte { return sealed(b, 6, b[6]|0x80) }},
	{"more, and 7 bytes", api.ErrForm, func(b []byte) []byte { return sealed(b, 6, b[6]|0x20) }},
	{"an Off that is too large", api.ErrForm, func(b []byte) []byte { return sealed(b, 6, b[6]|0x1F, 0xFD) }},
}

func sealed(b []byte, at int, others ...byte) []byte {
	b = bytes.Clone(b)
	copy(b[at:], others)
	seal(b)
	return b
}

func TestParseOfOneFault(t *testing.T) {
	for i, f := range faults {
		b := f.make(told(ordinary(1, 2, 3, 4, 5, 6, 7)))
		if i == 0 {
			wantNoHead(t, f.name, b)
			continue
		}
		wantNoPacket(t, f.name, b, f.code)
	}
}

// Of all faults that a packet has the first one is told. Two of them are of one
// field, of which a packet can have one alone.
func TestParseTellsTheFirstFault(t *testing.T) {
	for set := 1; set < 1<<len(faults); set++ {
		if both(set, 2, 3) || both(set, 4, 5) {
			continue
		}
		first, b := -1, told(ordinary(1, 2, 3, 4, 5, 6, 7))
		// The sum and the end are made wrong last: others are sealed, in a
		// whole head.
		for _, i := range []int{1, 2, 3, 4, 5, 7, 8, 9, 6, 0} {
			if set>>i&1 == 1 {
				b = faults[i].make(b)
				if first < 0 || i < first {
					first = i
				}
			}
		}
		if first == 0 {
			wantNoHead(t, faults[first].name, b)
		} else {
			wantNoPacket(t, faults[first].name+", and others", b, faults[first].code)
		}
	}
}

func both(set, i, j int) bool { return set>>i&1 == 1 && set>>j&1 == 1 }

func TestParseOfBytesThatEndTooEarly(t *testing.T) {
	for _, c := range packets {
		b := told(c.packet)
		for n := range 20 {
			wantNoHead(t, c.name, bytes.Clone(b[:n]))
			// What stands behind the end, in its room, is none of its bytes.
			wantNoHead(t, c.name+", with more behind", b[:n])
			wantNoHead(t, "noughts", make([]byte, n))
			wantNoHead(t, "FF", bytes.Repeat([]byte{0xFF}, n))
		}
		for n := 20; n < len(b); n++ {
			wantNoPacket(t, c.name, bytes.Clone(b[:n]), api.ErrShort)
			wantNoPacket(t, c.name+", with more behind", b[:n], api.ErrShort)
		}
	}
	wantNoHead(t, "nil", nil)
}

func TestParseOfEachFirstByte(t *testing.T) {
	for n := range 256 {
		code := api.ErrProto
		switch {
		case n == 0x45:
			continue
		case n >= 0x40 && n < 0x45:
			code = api.ErrForm
		case n > 0x45 && n <= 0x4F:
			code = api.ErrOption
		}
		p := ordinary(bytes.Repeat([]byte{1}, 40)...)
		wantNoPacket(t, "another first byte", other(p, 0, byte(n)), code)
		b := told(p)
		b[0] = byte(n)
		wantNoPacket(t, "another first byte, and so another sum", b, code)
	}
}

func TestParseOfEachSizeThatAPacketTells(t *testing.T) {
	p := ordinary(1, 2, 3, 4, 5, 6, 7, 8, 9, 10)
	for n := range 1 << 16 {
		b := other(p, 2, byte(n>>8), byte(n))
		switch {
		case n < 20:
			wantNoPacket(t, "fewer than twenty bytes in all", b, api.ErrForm)
		case n > 30:
			wantNoPacket(t, "more bytes in all than there are", b, api.ErrShort)
		default:
			want := p
			want.B = p.B[:n-20]
			wantPacket(t, "as many as there are, or fewer", b, want)
		}
	}
}

func TestParseOfTheLargestPacket(t *testing.T) {
	p := ordinary(bytes.Repeat([]byte{1, 2, 3, 4, 5}, 13103)...)
	b := told(p)
	if len(b) != 65535 {
		t.Fatalf("%d bytes", len(b))
	}
	wantPacket(t, "65535 bytes", b, p)
	wantPacket(t, "65535 bytes and more behind", append(b, b...), p)
	wantNoPacket(t, "65534 of 65535 bytes", b[:65534], api.ErrShort)
}

func TestParseOfEachSum(t *testing.T) {
	for _, c := range packets {
		b := told(c.packet)
		right := int(b[10])<<8 | int(b[11])
		for n := range 1 << 16 {
			b[10], b[11] = byte(n>>8), byte(n)
			if n == right || right == 0 && n == 0xFFFF {
				wantPacket(t, c.name, b, c.packet)
			} else {
				wantNoPacket(t, c.name+" with another sum", b, api.ErrSum)
			}
		}
	}
}

// FFFF makes a head as valid as 0 does, and so Parse takes it; Bytes writes 0,
// which is the sum.
func TestASumOf0IsTakenAsFFFFToo(t *testing.T) {
	p := packets[len(packets)-1].packet
	b := told(p)
	b[10], b[11] = 0xFF, 0xFF
	wantPacket(t, "FFFF", b, p)
	b[10], b[11] = 0, 0
	wantPacket(t, "0", b, p)
	wantBytes(t, "a sum of 0", p, b)
}

// A bit of the head that is another one is always found, one of B never.
func TestParseOfEachBitTurned(t *testing.T) {
	for _, c := range packets {
		for bit := range (20 + len(c.packet.B)) * 8 {
			b := told(c.packet)
			b[bit/8] ^= 1 << (bit % 8)
			switch {
			case bit >= 20*8:
				p := c.packet
				p.B = b[20:]
				wantPacket(t, c.name, b, p)
			case bit >= 4*8 || bit >= 8 && bit < 2*8:
				wantNoPacket(t, c.name, b, api.ErrSum)
			default:
				if p, err := Parse(b); err == nil {
					t.Fatalf("%s, bit %d: got %+v", c.name, bit, p)
				}
			}
		}
	}
}

func TestParseOfEachPairOfFlagsAndOff(t *testing.T) {
	for _, size := range []int{0, 1, 3, 4, 7, 8, 9, 16, 17} {
		p := ordinary(bytes.Repeat([]byte{1}, size)...)
		for n := range 1 << 16 {
			b := other(p, 6, byte(n>>8), byte(n))
			want := p
			want.DF, want.MF, want.Off = n&0x4000 != 0, n&0x2000 != 0, n%0x2000*8
			switch {
			case n >= 0x8000, want.MF && (size == 0 || size%8 != 0), 20+want.Off+size > 65535:
				wantNoPacket(t, "flags and Off that may not be", b, api.ErrForm)
			default:
				wantPacket(t, "flags and Off", b, want)
			}
		}
	}
}

// How many bytes a packet has is what it tells, not how many there are.
func TestParseOfAPartWithOthersBehind(t *testing.T) {
	p := part(0, true, 8)
	wantPacket(t, "more, 8 bytes, and one behind", append(told(p), 1), p)
	p = part(0, true, 7)
	wantNoPacket(t, "more, 7 bytes, and one behind", append(told(p), 1), api.ErrForm)
	p = part(0, true, 0)
	wantNoPacket(t, "more, no bytes, and 8 behind", append(told(p), 1, 2, 3, 4, 5, 6, 7, 8), api.ErrForm)
	p = part(65512, false, 3)
	wantPacket(t, "65535 in all, and one behind", append(told(p), 1), p)
}

func TestParseOfBytesWithOthersBehind(t *testing.T) {
	for _, more := range [][]byte{{0}, {0xFF}, make([]byte, 26), bytes.Repeat([]byte{0x45, 0, 0, 20}, 9), make([]byte, 70000)} {
		for _, c := range packets {
			wantPacket(t, c.name, append(told(c.packet), more...), c.packet)
		}
		for _, f := range faults[1:] {
			if f.code != api.ErrShort {
				wantNoPacket(t, f.name, append(f.make(told(ordinary(1, 2, 3, 4, 5, 6, 7))), more...), f.code)
			}
		}
	}
}

func FuzzParse(f *testing.F) {
	for _, c := range packets {
		f.Add(told(c.packet), true)
		f.Add(append(told(c.packet), 1, 2, 3), false)
	}
	for _, x := range faults {
		f.Add(x.make(told(ordinary(1, 2, 3, 4, 5, 6, 7))), false)
	}
	f.Fuzz(func(t *testing.T, b []byte, seals bool) {
		if seals && len(b) >= 20 {
			b = sealed(b, 0)
		}
		p, err := Parse(b)
		if err != nil {
			if !same(p, Packet{}) {
				t.Fatalf("% X: %+v beside %v", b, p, err)
			}
			return
		}
		got, err := p.Bytes()
		if err != nil || !bytes.Equal(got, sealed(b, 0)[:len(got)]) || Right(p) != nil {
			t.Fatalf("% X came back as % X, %v", b, got, err)
		}
		wantPacket(t, "what was written", got, p)
	})
}
