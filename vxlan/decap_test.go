package vxlan

import (
	"bytes"
	"testing"

	"underpass/api"
	"underpass/samples"
)

// heads are some that may be, with the id that each tells.
var heads = []struct {
	name string
	head []byte
	id   uint32
}{
	{"an ordinary one", []byte{0x08, 0, 0, 0, 0, 0, 5, 0}, 5},
	{"one of all bits", []byte{0xFF, 0xFF, 0xFF, 0xFF, 0xFF, 0xFF, 0xFF, 0xFF}, 0xFFFFFF},
	{"one of all bits that mean nothing", []byte{0xFF, 0xFF, 0xFF, 0xFF, 0, 0, 0, 0xFF}, 0},
	{"one of no two bytes alike", []byte{0x1B, 0x22, 0x33, 0x44, 0x55, 0x66, 0x77, 0x88}, 0x556677},
}

func TestDecapOfBytesThatEndTooEarly(t *testing.T) {
	for _, h := range heads {
		for n := range 8 {
			wantNoHead(t, h.name, bytes.Clone(h.head[:n]))
		}
		wantNoFrame(t, h.name+", and no frame", bytes.Clone(h.head), api.ErrShort)
	}
	wantNoHead(t, "nil", nil)
	wantNoHead(t, "no bytes", []byte{})
	for n := range 8 {
		wantNoHead(t, "noughts, whose bit 08 is 0 too", make([]byte, n))
		wantNoHead(t, "all bits but 08", bytes.Repeat([]byte{0xF7}, n))
	}
}

func TestDecapOfEachSmallSize(t *testing.T) {
	for _, h := range heads {
		for n := range 300 {
			if b := told(h.head, samples.Frame(n)); n < 14 {
				wantNoFrame(t, h.name+", and fewer than 14 bytes", b, api.ErrShort)
			} else {
				wantFrame(t, h.name, b, h.id, samples.Frame(n))
			}
		}
	}
}

func TestDecapOfTheLargestSizes(t *testing.T) {
	for _, h := range heads {
		for n := 8980; n <= 9000; n++ {
			wantFrame(t, h.name, told(h.head, samples.Frame(n)), h.id, samples.Frame(n))
		}
		for _, n := range []int{9001, 9002, 9008, 9014, 16384, 65536, 65536 + 14, 1000000} {
			wantNoFrame(t, h.name+", and more than 9000 bytes", told(h.head, samples.Frame(n)), api.ErrBig)
		}
	}
}

// What stands behind the end of a slice, in its room, is none of its bytes.
func TestDecapLooksAtNoBytesBehindTheEnd(t *testing.T) {
	room := told([]byte{0x08, 0, 0, 0, 0, 0, 5, 0}, samples.Frame(9100))
	for n := range 8 {
		wantNoHead(t, "bytes with more in their room", room[:n])
	}
	for n := 8; n < 8+14; n++ {
		wantNoFrame(t, "a frame with more in its room", room[:n], api.ErrShort)
	}
	for _, n := range []int{14, 15, 60, 9000} {
		wantFrame(t, "a frame with more in its room", room[:8+n], 5, samples.Frame(9100)[:n])
	}
}

func TestDecapOfEachFirstByte(t *testing.T) {
	for n := range 256 {
		b := told([]byte{byte(n), 0, 0, 0, 0, 0, 5, 0}, samples.Frame(60))
		if n/8%2 == 1 {
			wantFrame(t, "a first byte with the bit 08", b, 5, samples.Frame(60))
		} else {
			wantNoFrame(t, "a first byte without the bit 08", b, api.ErrForm)
		}
	}
}

// The bit 08 of another byte is none of the first one.
func TestDecapOfTheBitInAnotherByte(t *testing.T) {
	for i := 1; i < 8; i++ {
		b := told(make([]byte, 8), samples.Frame(60))
		b[i] = 0x08
		wantNoFrame(t, "the bit in another byte", b, api.ErrForm)
		b[0] = 0xF7
		b[i] = 0xFF
		wantNoFrame(t, "all bits of another byte", b, api.ErrForm)
	}
}

func TestDecapOfBytesThatMeanNothing(t *testing.T) {
	for _, i := range []int{1, 2, 3, 7} {
		for n := range 256 {
			b := told([]byte{0x08, 0, 0, 0, 0x12, 0x34, 0x56, 0}, samples.Frame(60))
			b[i] = byte(n)
			wantFrame(t, "a byte that means nothing", b, 0x123456, samples.Frame(60))
			b[0] = 0
			wantNoFrame(t, "a byte that means nothing, without the bit 08", b, api.ErrForm)
		}
	}
}

func TestDecapOfEachByteOfAnID(t *testing.T) {
	for n := range uint32(256) {
		for i, shift := range []int{16, 8, 0} {
			b := told([]byte{0x08, 0xC1, 0xC2, 0xC3, 0, 0, 0, 0xC4}, samples.Frame(14))
			b[4+i] = byte(n)
			wantFrame(t, "an id of one byte", b, n<<shift, samples.Frame(14))
		}
	}
}

// What is wrong with the header is told ahead of what is wrong with the frame.
func TestDecapTellsTheHeaderFirst(t *testing.T) {
	for _, first := range []byte{0, 1, 7, 0x10, 0x80, 0xF7} {
		for _, n := range []int{0, 1, 13, 14, 9000, 9001, 65536} {
			b := told([]byte{first, 0, 0, 0, 0, 0, 5, 0}, samples.Frame(n))
			wantNoFrame(t, "no bit 08, whatever the frame is", b, api.ErrForm)
			b[0] |= 0x08
			switch {
			case n < 14:
				wantNoFrame(t, "the bit 08, and a short frame", b, api.ErrShort)
			case n > 9000:
				wantNoFrame(t, "the bit 08, and a large frame", b, api.ErrBig)
			default:
				wantFrame(t, "the bit 08", b, 5, samples.Frame(n))
			}
		}
	}
}

func TestDecapKeepsNothingThatItWasHanded(t *testing.T) {
	for _, c := range packets {
		b := append(told(c.head, c.frame), bytes.Repeat([]byte{0xAA}, 16)...)
		id, frame, err := Decap(b[:len(b)-16])
		if !bytes.Equal(b, append(told(c.head, c.frame), bytes.Repeat([]byte{0xAA}, 16)...)) {
			t.Fatalf("%s: Decap has changed what it was handed", c.name)
		}
		for i := range b {
			b[i] = 0xE7
		}
		if err != nil || id != c.id || !bytes.Equal(frame, c.frame) {
			t.Fatalf("%s: got id %d, %.40X, %v once the bytes were written over", c.name, id, frame, err)
		}
		wantNoFrame(t, "the bytes that were written over", b, api.ErrForm)
	}
}

func TestFramesAreTheCallers(t *testing.T) {
	for _, c := range packets {
		b := append(told(c.head, c.frame), bytes.Repeat([]byte{0xAA}, 16)...)
		_, first, _ := Decap(b[:len(b)-16])
		id, second, err := Decap(b[:len(b)-16])
		clear(append(first, 9, 9))
		clear(first)
		if err != nil || id != c.id || !bytes.Equal(second, c.frame) {
			t.Fatalf("%s: two frames share bytes: id %d, %.40X, %v", c.name, id, second, err)
		}
		if !bytes.Equal(b, append(told(c.head, c.frame), bytes.Repeat([]byte{0xAA}, 16)...)) {
			t.Fatalf("%s: a frame shares what Decap was handed", c.name)
		}
	}
}

func TestDecapLeavesWhatItRefuses(t *testing.T) {
	for _, n := range []int{0, 3, 8, 8 + 13, 8 + 14, 8 + 9000, 8 + 9001} {
		for _, first := range []byte{0, 0x08} {
			b := samples.Frame(n)
			copy(b, []byte{first})
			want := bytes.Clone(b)
			_, _, _ = Decap(b)
			if !bytes.Equal(b, want) {
				t.Fatalf("%d bytes that begin with %02X were changed", n, first)
			}
		}
	}
}
