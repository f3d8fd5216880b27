package geneve

import (
	"bytes"
	"testing"

	"underpass/api"
	"underpass/samples"
)

func TestDecapOfBytesThatEndTooEarly(t *testing.T) {
	for _, c := range packets {
		for n := range c.head {
			wantCut(t, c.name, bytes.Clone(c.head[:n]))
		}
		wantNoFrame(t, c.name+", and no frame", bytes.Clone(c.head), api.ErrShort)
	}
	wantCut(t, "nil", nil)
	for n := range 8 {
		wantCut(t, "noughts, which are of another protocol too", make([]byte, n))
		wantCut(t, "all bits, which are of another version too", bytes.Repeat([]byte{0xFF}, n))
	}
	wantNoFrame(t, "eight noughts", make([]byte, 8), api.ErrProto)
	wantNoFrame(t, "eight bytes of all bits", bytes.Repeat([]byte{0xFF}, 8), api.ErrForm)
}

// What stands behind the end of a slice, in its room, is none of its bytes.
func TestDecapLooksAtNoBytesBehindTheEnd(t *testing.T) {
	for _, c := range packets {
		room := append(told(c.head, c.frame), samples.Frame(50)...)
		for n := range c.head {
			wantCut(t, c.name, room[:n])
		}
		for n := len(c.head); n < len(c.head)+14; n++ {
			wantNoFrame(t, c.name, room[:n], api.ErrShort)
		}
		wantFrame(t, c.name, room[:len(c.head)+14], c.id, c.l, c.frame[:14])
		wantFrame(t, c.name, room[:len(c.head)+len(c.frame)], c.id, c.l, c.frame)
	}
}

func TestDecapOfEachSizeOfAFrame(t *testing.T) {
	for _, c := range packets {
		for _, n := range []int{0, 1, 12, 13, 14, 15, 16, 60, 8999, 9000, 9001, 9002, 9014, 65536, 65536 + 14, 1000000} {
			b := told(c.head, samples.Frame(n))
			switch {
			case n < 14:
				wantNoFrame(t, c.name, b, api.ErrShort)
			case n > 9000:
				wantNoFrame(t, c.name, b, api.ErrBig)
			default:
				wantFrame(t, c.name, b, c.id, c.l, samples.Frame(n))
			}
		}
	}
}

// The first byte is a version of two bits, and how many units the options have.
func TestDecapOfEachFirstByte(t *testing.T) {
	for n := range 256 {
		b := append([]byte{byte(n), 0, 0x65, 0x58, 0, 0, 5, 0}, make([]byte, 63*4)...)
		b = append(b, samples.Frame(14)...)
		if n > 63 {
			wantNoFrame(t, "another version", b, api.ErrForm)
			wantCut(t, "another version, of seven bytes", b[:7])
			continue
		}
		wantFrame(t, "a first byte", b, 5, make([]api.Option, n), b[8+4*n:])
		wantFrame(t, "a first byte, and the smallest frame", b[:8+4*n+14], 5, make([]api.Option, n), b[8+4*n:][:14])
		wantNoFrame(t, "a first byte, and no frame", b[:8+4*n], api.ErrShort)
		if n > 0 {
			wantCut(t, "a first byte, and a byte too few", b[:8+4*n-1])
			wantCut(t, "a first byte, and no options", b[:8])
		}
	}
}

func TestDecapOfEachSecondByte(t *testing.T) {
	for n := range 256 {
		plain := told([]byte{1, byte(n), 0x65, 0x58, 0, 0, 5, 0, 0, 1, 0x7F, 0}, samples.Frame(14))
		crit := told([]byte{1, byte(n), 0x65, 0x58, 0, 0, 5, 0, 0, 1, 0x80, 0}, samples.Frame(14))
		none := told([]byte{0, byte(n), 0x65, 0x58, 0, 0, 5, 0}, samples.Frame(14))
		switch {
		case n >= 0x80:
			wantNoFrame(t, "the highest bit", plain, api.ErrForm)
			wantNoFrame(t, "the highest bit", crit, api.ErrForm)
			wantNoFrame(t, "the highest bit", none, api.ErrForm)
		case n >= 0x40:
			wantNoFrame(t, "bit 40 without a critical option", plain, api.ErrForm)
			wantNoFrame(t, "bit 40 without options", none, api.ErrForm)
			wantFrame(t, "bit 40", crit, 5, []api.Option{{Class: 1, Type: 0x80}}, samples.Frame(14))
		default:
			wantFrame(t, "no bit 40", plain, 5, []api.Option{{Class: 1, Type: 0x7F}}, samples.Frame(14))
			wantFrame(t, "no bit 40, and no options", none, 5, nil, samples.Frame(14))
			wantNoFrame(t, "no bit 40, but a critical option", crit, api.ErrForm)
		}
	}
}

func TestDecapOfOtherProtocols(t *testing.T) {
	for n := range 1 << 16 {
		b := told([]byte{0, 0, byte(n >> 8), byte(n), 0, 0, 5, 0}, samples.Frame(14))
		if n == 0x6558 {
			wantFrame(t, "frames", b, 5, nil, samples.Frame(14))
		} else {
			wantNoFrame(t, "another protocol", b, api.ErrProto)
		}
	}
}

func TestDecapOfEachByteOfAnID(t *testing.T) {
	for n := range uint32(256) {
		for i, shift := range []int{16, 8, 0} {
			b := told([]byte{0, 0x3F, 0x65, 0x58, 0, 0, 0, 0xC4}, samples.Frame(14))
			b[4+i] = byte(n)
			wantFrame(t, "an id of one byte", b, n<<shift, nil, samples.Frame(14))
		}
	}
}

// The lowest six bits of the second byte, and the eighth byte, mean nothing.
func TestDecapOfBitsThatMeanNothing(t *testing.T) {
	for _, c := range packets {
		for n := range 256 {
			b := told(c.head, c.frame)
			b[1] |= byte(n % 64)
			b[7] = byte(n)
			wantFrame(t, c.name, b, c.id, c.l, c.frame)
			b[1] ^= 0x40
			wantNoFrame(t, c.name+", with bit 40 turned round", b, api.ErrForm)
		}
	}
}

func TestDecapOfEachFourthByteOfAnOption(t *testing.T) {
	for n := range 256 {
		head := append([]byte{63, 0, 0x65, 0x58, 0, 0, 5, 0, 1, 2, 3, byte(n)}, make([]byte, 248)...)
		b := told(head, samples.Frame(1200))
		if n > 31 {
			wantNoFrame(t, "one of the highest three bits", b, api.ErrForm)
			continue
		}
		l := append([]api.Option{{Class: 0x0102, Type: 3, B: make([]byte, 4*n)}}, make([]api.Option, 62-n)...)
		wantFrame(t, "a number of units", b, 5, l, samples.Frame(1200))
	}
}

// An option whose fourth byte has one of the highest three bits is a fault,
// whether it fits by all eight bits, or by the lowest five.
func TestDecapOfOptionsWithMoreThan31Units(t *testing.T) {
	for units := 32; units < 63; units++ {
		head := append([]byte{byte(1 + units), 0, 0x65, 0x58, 0, 0, 5, 0, 1, 2, 3, byte(units)}, make([]byte, 4*units)...)
		wantNoFrame(t, "an option that fits", told(head, samples.Frame(60)), api.ErrForm)
	}
	for bit := 5; bit < 8; bit++ {
		for low := range 32 {
			head := append([]byte{byte(1 + low), 0, 0x65, 0x58, 0, 0, 5, 0, 1, 2, 3, byte(low | 1<<bit)}, make([]byte, 4*low)...)
			wantNoFrame(t, "an option that fits without a bit", told(head, samples.Frame(60)), api.ErrForm)
			head[11] = byte(low)
			wantFrame(t, "an option that fits", told(head, samples.Frame(60)), 5, []api.Option{{Class: 0x0102, Type: 3, B: make([]byte, 4*low)}}, samples.Frame(60))
		}
	}
}

// An option that needs more than are left is a fault of form, however many
// bytes there are behind the options.
func TestDecapOfOptionsThatDoNotFill(t *testing.T) {
	for units := 1; units < 32; units++ {
		for fewer := range units {
			head := []byte{byte(1 + fewer), 0, 0x65, 0x58, 0, 0, 5, 0, 1, 2, 3, byte(units)}
			wantNoFrame(t, "the first one needs more", told(head, make([]byte, 4*fewer+200)), api.ErrForm)
			wantNoFrame(t, "the first one needs more, and no frame", told(head, make([]byte, 4*fewer)), api.ErrForm)
			if fewer > 0 {
				wantCut(t, "the first one needs more, and they are not whole", told(head, make([]byte, 4*fewer-1)))
			}
		}
	}
	for _, c := range packets {
		if len(c.l) == 0 {
			continue
		}
		b := told(c.head, c.frame)
		last := len(c.head) - len(c.l[len(c.l)-1].B) - 1
		b[last]++
		wantNoFrame(t, c.name+", but the last one needs more", b, api.ErrForm)
	}
}

// What follows an option's B is the next option, whatever it was meant as.
func TestDecapOfAnOptionThatNeedsLess(t *testing.T) {
	head := []byte{3, 0, 0x65, 0x58, 0, 0, 5, 0, 1, 2, 3, 2, 4, 5, 6, 0, 7, 8, 9, 0}
	l := []api.Option{{Class: 0x0102, Type: 3, B: []byte{4, 5, 6, 0, 7, 8, 9, 0}}}
	wantFrame(t, "an option of two units", told(head, samples.Frame(14)), 5, l, samples.Frame(14))
	head[11] = 1
	l = []api.Option{{Class: 0x0102, Type: 3, B: []byte{4, 5, 6, 0}}, {Class: 0x0708, Type: 9}}
	wantFrame(t, "one of one unit, and another one", told(head, samples.Frame(14)), 5, l, samples.Frame(14))
	head[11] = 0
	l = []api.Option{{Class: 0x0102, Type: 3}, {Class: 0x0405, Type: 6}, {Class: 0x0708, Type: 9}}
	wantFrame(t, "three without a B", told(head, samples.Frame(14)), 5, l, samples.Frame(14))
}

// Two faults beside each other: the first one is told.
func TestDecapTellsTheFirstOfTwo(t *testing.T) {
	noFrame, big := samples.Frame(13), samples.Frame(9001)
	for _, c := range []struct {
		name string
		b    []byte
		code api.Errno
	}{
		{"another version, and another protocol", told([]byte{0x40, 0, 0x65, 0x59, 0, 0, 5, 0}, samples.Frame(14)), api.ErrForm},
		{"the highest bit, and another protocol", told([]byte{0, 0x80, 0x64, 0x58, 0, 0, 5, 0}, samples.Frame(14)), api.ErrForm},
		{"another version, and no options where some are told", []byte{0x81, 0, 0x65, 0x58, 0, 0, 5, 0}, api.ErrForm},
		{"another protocol, and no options where some are told", []byte{1, 0, 0x65, 0x50, 0, 0, 5, 0}, api.ErrProto},
		{"another protocol, and an option of a wrong form", told([]byte{1, 0, 0x08, 0, 0, 0, 5, 0, 0, 1, 2, 0x20}, samples.Frame(14)), api.ErrProto},
		{"an option of a wrong form, and no frame", []byte{1, 0, 0x65, 0x58, 0, 0, 5, 0, 0, 1, 2, 0x20}, api.ErrForm},
		{"an option of a wrong form, and bit 40", told([]byte{1, 0x40, 0x65, 0x58, 0, 0, 5, 0, 0, 1, 2, 1}, samples.Frame(14)), api.ErrForm},
		{"an option of a wrong form, and a large frame", told([]byte{1, 0, 0x65, 0x58, 0, 0, 5, 0, 0, 1, 2, 0x40}, big), api.ErrForm},
		{"bit 40, and a short frame", told([]byte{0, 0x40, 0x65, 0x58, 0, 0, 5, 0}, noFrame), api.ErrForm},
		{"no bit 40, and a short frame", told([]byte{1, 0, 0x65, 0x58, 0, 0, 5, 0, 0, 1, 0x80, 0}, noFrame), api.ErrForm},
		{"bit 40, and a large frame", told([]byte{0, 0x40, 0x65, 0x58, 0, 0, 5, 0}, big), api.ErrForm},
		{"no bit 40, and a large frame", told([]byte{1, 0, 0x65, 0x58, 0, 0, 5, 0, 0, 1, 0x80, 0}, big), api.ErrForm},
		{"another protocol, and a large frame", told([]byte{0, 0, 0x65, 0x57, 0, 0, 5, 0}, big), api.ErrProto},
	} {
		wantNoFrame(t, c.name, c.b, c.code)
	}
	for _, seven := range [][]byte{{0x40, 0, 0x65, 0x58, 0, 0, 5}, {0, 0x80, 0x65, 0x58, 0, 0, 5}, {0, 0, 0x65, 0x59, 0, 0, 5}} {
		wantCut(t, "seven bytes, and another fault", seven)
	}
	wantCut(t, "options that are not whole, of a wrong form", []byte{2, 0, 0x65, 0x58, 0, 0, 5, 0, 0, 1, 2, 0xFF, 1, 1, 1})
	wantCut(t, "options that are not whole, and bit 40", []byte{2, 0x40, 0x65, 0x58, 0, 0, 5, 0, 0, 1, 2, 1, 1, 1, 1})
}

func TestDecapKeepsNothingThatItWasHanded(t *testing.T) {
	for _, c := range packets {
		b := append(told(c.head, c.frame), bytes.Repeat([]byte{0xAA}, 16)...)
		id, l, frame, err := Decap(b[:len(b)-16])
		if !bytes.Equal(b, append(told(c.head, c.frame), bytes.Repeat([]byte{0xAA}, 16)...)) {
			t.Fatalf("%s: Decap has changed what it was handed", c.name)
		}
		for i := range b {
			b[i] = 0xE7
		}
		if err != nil || id != c.id || !bytes.Equal(frame, c.frame) || !samples.Alike(l, c.l) {
			t.Fatalf("%s: got id %d, %v, %.40X, %v once the bytes were written over", c.name, id, l, frame, err)
		}
		wantNoFrame(t, "the bytes that were written over", b, api.ErrForm)
	}
}

// Each B, and the frame, may be written over, and behind its end, without a
// change of another one.
func TestWhatIsToldIsTheCallers(t *testing.T) {
	for _, c := range packets {
		b := append(told(c.head, c.frame), bytes.Repeat([]byte{0xAA}, 16)...)
		_, other, otherFrame, _ := Decap(b[:len(b)-16])
		for i := range len(c.l) + 1 {
			_, l, frame, err := Decap(b[:len(b)-16])
			want, wantedFrame := samples.Own(c.l), c.frame
			if i < len(l) {
				samples.Spoil(l[i].B)
				l[i].B, want[i].B = nil, nil
			} else {
				samples.Spoil(frame)
				wantedFrame = bytes.Repeat([]byte{0xE7}, len(frame))
			}
			if err != nil || !samples.Alike(l, want) || !bytes.Equal(frame, wantedFrame) {
				t.Fatalf("%s: what is told shares bytes: %v, %.40X, %v", c.name, l, frame, err)
			}
		}
		if !samples.Alike(other, c.l) || !bytes.Equal(otherFrame, c.frame) {
			t.Fatalf("%s: two answers share bytes: %v, %.40X", c.name, other, otherFrame)
		}
		if !bytes.Equal(b, append(told(c.head, c.frame), bytes.Repeat([]byte{0xAA}, 16)...)) {
			t.Fatalf("%s: an answer shares what Decap was handed", c.name)
		}
	}
}

func TestDecapLeavesWhatItRefuses(t *testing.T) {
	for _, c := range packets {
		for _, n := range []int{0, 3, 7, 8, len(c.head), len(c.head) + 13, len(c.head) + 9001} {
			b := told(c.head, samples.Frame(9001))[:n]
			want := bytes.Clone(b)
			_, _, _, _ = Decap(b)
			if !bytes.Equal(b, want) {
				t.Fatalf("%s: %d bytes were changed", c.name, n)
			}
		}
	}
}
