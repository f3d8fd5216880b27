package gre

import (
	"bytes"
	"testing"

	"underpass/api"
	"underpass/samples"
)

// Each flag has its bit, and its field its place, whatever the others are.
func TestEncapOfEachWay(t *testing.T) {
	key, seq := []byte{1, 2, 3, 4}, []byte{5, 6, 7, 8}
	for n, head := range [][]byte{
		{0x00, 0, 0x65, 0x58},
		told([]byte{0x80, 0, 0x65, 0x58}, []byte{0, 0, 0, 0}),
		told([]byte{0x20, 0, 0x65, 0x58}, key),
		told([]byte{0xA0, 0, 0x65, 0x58, 0, 0, 0, 0}, key),
		told([]byte{0x10, 0, 0x65, 0x58}, seq),
		told([]byte{0x90, 0, 0x65, 0x58, 0, 0, 0, 0}, seq),
		told([]byte{0x30, 0, 0x65, 0x58}, told(key, seq)),
		told([]byte{0xB0, 0, 0x65, 0x58, 0, 0, 0, 0}, told(key, seq)),
	} {
		for _, size := range []int{14, 15, 60, 61, 9000} {
			h, frame := way(n, 0x01020304, 0x05060708), samples.Frame(size)
			want := told(head, frame)
			if h.Sum {
				want = summed(want)
			}
			wantPacket(t, "a way", h, frame, want)
			wantFrame(t, "a way", want, h, frame)
		}
	}
}

func TestEncapOfEachByteOfAKeyAndASeq(t *testing.T) {
	frame := samples.Frame(20)
	for n := range uint32(256) {
		for shift := 0; shift < 32; shift += 8 {
			x := uint32(0x41424344)&^(0xFF<<shift) | n<<shift
			b := []byte{byte(x >> 24), byte(x >> 16), byte(x >> 8), byte(x)}
			wantPacket(t, "a Key", Header{Keyed: true, Key: x}, frame, told(told([]byte{0x20, 0, 0x65, 0x58}, b), frame))
			wantPacket(t, "a Seq", Header{Seqed: true, Seq: x}, frame, told(told([]byte{0x10, 0, 0x65, 0x58}, b), frame))
		}
	}
}

func TestEncapOfEdgesOfAKeyAndASeq(t *testing.T) {
	frame := samples.Frame(33)
	rows := [][]byte{{0, 0, 0, 0}, {0, 0, 0, 1}, {0x80, 0, 0, 0}, {0xFF, 0xFF, 0xFF, 0xFF}, {0x81, 0xC3, 0xE5, 0xF7}}
	for i, key := range numbers {
		for j, seq := range numbers {
			behind := told(told(rows[i], rows[j]), frame)
			wantPacket(t, "a Key and a Seq", way(6, key, seq), frame, told([]byte{0x30, 0, 0x65, 0x58}, behind))
			wantPacket(t, "and a sum", way(7, key, seq), frame, summed(told([]byte{0xB0, 0, 0x65, 0x58, 0, 0, 0, 0}, behind)))
		}
	}
}

// A Key and a Seq beside a flag that is false mean nothing, in a sum neither.
func TestEncapOfNumbersBesideAFlagThatIsFalse(t *testing.T) {
	for n := range 8 {
		for _, x := range numbers {
			for _, size := range []int{14, 61} {
				plain, frame := way(n, 0x0A0B0C0D, 0x11223344), samples.Frame(size)
				want, err := Encap(plain, frame)
				if err != nil {
					t.Fatalf("%+v: %v", plain, err)
				}
				h := plain
				if !h.Keyed {
					h.Key = x
				}
				if !h.Seqed {
					h.Seq = x + 1
				}
				wantPacket(t, "numbers that mean nothing", h, frame, want)
				wantFrame(t, "numbers that mean nothing", want, plain, frame)
			}
		}
	}
}

func TestEncapOfEachSmallFrame(t *testing.T) {
	for n := range 8 {
		h := way(n, 1<<31, 1<<32-1)
		for size := range 200 {
			if frame := samples.Frame(size); size < 14 {
				wantNoPacket(t, "a frame of fewer than 14 bytes", h, frame, api.ErrShort)
			} else {
				want, _ := plainEncap(h, frame)
				wantPacket(t, "a frame of 14 bytes or more", h, frame, want)
			}
		}
		wantNoPacket(t, "nil", h, nil, api.ErrShort)
		wantNoPacket(t, "no bytes, but room", h, make([]byte, 0, 60), api.ErrShort)
	}
}

func TestEncapOfTheLargestFrames(t *testing.T) {
	for n := range 8 {
		h := way(n, 1, 2)
		for size := 8990; size <= 9000; size++ {
			want, _ := plainEncap(h, samples.Frame(size))
			wantPacket(t, "a frame of 9000 bytes or fewer", h, samples.Frame(size), want)
		}
		for _, size := range []int{9001, 9002, 9014, 16384, 65536, 65536 + 14, 1000000} {
			wantNoPacket(t, "a frame of more than 9000 bytes", h, samples.Frame(size), api.ErrBig)
		}
	}
}

// The sum is of each byte: the flags', the protocol's, the Key's, the Seq's and
// the frame's, at an even place as at an odd one.
func TestEncapSumsEachByte(t *testing.T) {
	for _, size := range []int{14, 15} {
		for n := 1; n < 8; n += 2 {
			h := way(n, 0, 0)
			for bit := range 8 * size {
				frame := make([]byte, size)
				frame[bit/8] = 1 << (bit % 8)
				want, _ := plainEncap(h, frame)
				wantPacket(t, "a frame of one bit", h, frame, want)
			}
			for bit := range 32 {
				h := way(n, 1<<bit, 0)
				want, _ := plainEncap(h, make([]byte, size))
				wantPacket(t, "a Key of one bit", h, make([]byte, size), want)
				h = way(n, 0, 1<<bit)
				want, _ = plainEncap(h, make([]byte, size))
				wantPacket(t, "a Seq of one bit", h, make([]byte, size), want)
			}
		}
	}
}

// Each sum there is stands in its place, the higher byte first: two bytes of a
// frame of noughts make it what it is.
func TestEncapOfEachSum(t *testing.T) {
	for n := range 1 << 16 {
		frame := append(make([]byte, 14), byte(n>>8), byte(n))
		total := 0xE558 + n
		total = total&0xFFFF + total>>16
		head := []byte{0x80, 0, 0x65, 0x58, byte(^total >> 8), byte(^total), 0, 0}
		wantPacket(t, "a sum", Header{Sum: true}, frame, told(head, frame))
		wantFrame(t, "a sum", told(head, frame), Header{Sum: true}, frame)
	}
}

// Bytes behind the end, in the room of a frame, are none of it, nor of its sum.
func TestEncapLooksAtNoBytesBehindTheEnd(t *testing.T) {
	for n := range 8 {
		room := samples.Frame(9100)
		h := way(n, 3, 4)
		wantNoPacket(t, "13 bytes with more in their room", h, room[:13], api.ErrShort)
		for _, size := range []int{14, 15, 60, 8999, 9000} {
			want, _ := plainEncap(h, samples.Frame(9100)[:size])
			wantPacket(t, "a frame with more in its room", h, room[:size], want)
		}
		if !bytes.Equal(room, samples.Frame(9100)) {
			t.Fatal("Encap has written into a frame's room")
		}
	}
}

func TestEncapKeepsNothingOfTheFrame(t *testing.T) {
	for _, c := range packets {
		behind := bytes.Repeat([]byte{0xAA}, 16)
		room := told(c.frame, behind)
		frame := room[:len(c.frame)]
		first, _ := Encap(c.h, frame)
		second, err := Encap(c.h, frame)
		samples.Spoil(first)
		if !bytes.Equal(room, told(c.frame, behind)) {
			t.Fatalf("%s: the packet shares the frame's bytes", c.name)
		}
		samples.Spoil(room)
		if err != nil || !bytes.Equal(second, told(c.head, c.frame)) {
			t.Fatalf("%s: got %.50X, %v once the frame was written over", c.name, second, err)
		}
		wantPacket(t, c.name, c.h, c.frame, told(c.head, c.frame))
	}
}

func TestEncapLeavesWhatItRefuses(t *testing.T) {
	for _, size := range []int{0, 13, 14, 9000, 9001} {
		for n := range 8 {
			frame := samples.Frame(size)
			_, _ = Encap(way(n, 1, 2), frame)
			if !bytes.Equal(frame, samples.Frame(size)) {
				t.Fatalf("way %d: %d bytes were changed", n, size)
			}
		}
	}
}
