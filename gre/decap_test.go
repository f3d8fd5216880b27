package gre

import (
	"bytes"
	"slices"
	"testing"

	"underpass/api"
	"underpass/samples"
)

// headOf is what is ahead of a frame, with a sum of 0 where there is one.
func headOf(h Header) []byte {
	b, _ := plainEncap(h, make([]byte, 14))
	b = b[:len(b)-14]
	if h.Sum {
		b[4], b[5] = 0, 0
	}
	return b
}

// packetOf is a whole packet, whatever is left for the frame, with the sum that
// it should have where there is one.
func packetOf(h Header, left []byte) []byte {
	b := told(headOf(h), left)
	if h.Sum {
		b = summed(b)
	}
	return b
}

func TestDecapOfFewerThanFourBytes(t *testing.T) {
	for _, c := range packets {
		for n := range 4 {
			wantCut(t, c.name, bytes.Clone(c.head[:n]))
		}
	}
	wantCut(t, "nil", nil)
	for n := range 4 {
		wantCut(t, "noughts, which are of another protocol too", make([]byte, n))
		wantCut(t, "all bits, of which some may not be", bytes.Repeat([]byte{0xFF}, n))
	}
	wantRefused(t, "four noughts", make([]byte, 4), api.ErrProto)
	wantRefused(t, "four bytes of all bits", bytes.Repeat([]byte{0xFF}, 4), api.ErrForm)
	wantRefused(t, "four bytes, and no frame", []byte{0, 0, 0x65, 0x58}, api.ErrShort)
}

// Of each way each number of bytes up to where the last field is whole: then it
// is the frame that is too short.
func TestDecapOfFieldsThatAreNotWhole(t *testing.T) {
	for n := range 8 {
		head := headOf(way(n, 0x01020304, 0x05060708))
		if want := []int{4, 8, 8, 12, 8, 12, 12, 16}[n]; len(head) != want {
			t.Fatalf("way %d: %d bytes ahead of the frame, want %d", n, len(head), want)
		}
		for size := 4; size < len(head); size++ {
			wantCut(t, "a field that is not whole", bytes.Clone(head[:size]))
			if n&1 == 1 && size >= 6 {
				wantCut(t, "a field that is not whole, and a sum that is right", summed(head[:size]))
			}
		}
		for size := range 14 {
			wantRefused(t, "a frame that is not whole", packetOf(way(n, 0x01020304, 0x05060708), samples.Frame(size)), api.ErrShort)
		}
	}
}

// What stands behind the end of a slice, in its room, is none of its bytes.
func TestDecapLooksAtNoBytesBehindTheEnd(t *testing.T) {
	for n := range 8 {
		h := way(n, 3, 4)
		size := len(headOf(h))
		for left := range 30 {
			room := told(packetOf(h, samples.Frame(left)), samples.Frame(50))
			for cut := range size {
				wantCut(t, "a head with more in its room", room[:cut])
			}
			if left < 14 {
				wantRefused(t, "a frame with more in its room", room[:size+left], api.ErrShort)
			} else {
				wantFrame(t, "a frame with more in its room", room[:size+left], h, samples.Frame(left))
			}
		}
	}
}

func TestDecapOfEachSizeOfAFrame(t *testing.T) {
	for n := range 8 {
		h := way(n, 1<<32-1, 1)
		for _, size := range []int{0, 1, 12, 13, 14, 15, 16, 60, 8999, 9000, 9001, 9002, 9004, 9008, 9014, 65536, 65536 + 14, 1000000} {
			b := packetOf(h, samples.Frame(size))
			switch {
			case size < 14:
				wantRefused(t, "a frame of fewer than 14 bytes", b, api.ErrShort)
			case size > 9000:
				wantRefused(t, "a frame of more than 9000 bytes", b, api.ErrBig)
			default:
				wantFrame(t, "a frame", b, h, samples.Frame(size))
			}
		}
	}
}

// Each of the flags' two bytes: what another bit stands beside does not matter.
func TestDecapOfAllFlags(t *testing.T) {
	behind := []byte{1, 2, 3, 4, 5, 6, 7, 8, 9, 10, 11, 12}
	for n := range 1 << 16 {
		b := slices.Concat([]byte{byte(n >> 8), byte(n), 0x65, 0x58}, behind, samples.Frame(14))
		if n&0x8000 != 0 {
			b = summed(b)
		}
		if n&^0xB000 != 0 {
			wantRefused(t, "another bit", b, api.ErrForm)
			wantRefused(t, "another bit, in four bytes", b[:4:4], api.ErrForm)
			continue
		}
		h, frame, err := Decap(b)
		if err != nil || h.Sum != (n&0x8000 != 0) || h.Keyed != (n&0x2000 != 0) || h.Seqed != (n&0x1000 != 0) || !bytes.HasSuffix(b, frame) {
			t.Fatalf("flags %04X: got %+v, %X, %v", n, h, frame, err)
		}
	}
}

func TestDecapOfEachOtherBitOfTheFlags(t *testing.T) {
	for n := range 8 {
		h := way(n, 0x0A0B0C0D, 7)
		for bit := range 16 {
			other := 1 << bit
			if other&0xB000 != 0 {
				continue
			}
			b := packetOf(h, samples.Frame(60))
			b[0] |= byte(other >> 8)
			b[1] |= byte(other)
			wantRefused(t, "another bit", b, api.ErrForm)
			if h.Sum {
				wantRefused(t, "another bit, and a sum that is right", summed(b), api.ErrForm)
			}
		}
	}
}

func TestDecapOfOtherProtocols(t *testing.T) {
	for _, first := range []byte{0, 0x20, 0x80, 0xB0} {
		for n := range 1 << 16 {
			b := told([]byte{first, 0, byte(n >> 8), byte(n)}, samples.Frame(60))
			if first >= 0x80 {
				b = summed(b)
			}
			if n != 0x6558 {
				wantRefused(t, "another protocol", b, api.ErrProto)
			} else if _, _, err := Decap(b); err != nil {
				t.Fatalf("frames behind %02X: got %v", first, err)
			}
		}
	}
}

func TestDecapOfEachByteOfAKeyAndASeq(t *testing.T) {
	frame := samples.Frame(14)
	for n := range uint32(256) {
		for i := range 4 {
			row := make([]byte, 4)
			row[i] = byte(n)
			x := n << (24 - 8*i)
			wantFrame(t, "a Key", slices.Concat([]byte{0x20, 0, 0x65, 0x58}, row, frame), Header{Keyed: true, Key: x}, frame)
			wantFrame(t, "a Seq", slices.Concat([]byte{0x10, 0, 0x65, 0x58}, row, frame), Header{Seqed: true, Seq: x}, frame)
			both := slices.Concat([]byte{0x30, 0, 0x65, 0x58}, row, []byte{9, 8, 7, 6}, frame)
			wantFrame(t, "a Key ahead of a Seq", both, Header{Keyed: true, Key: x, Seqed: true, Seq: 0x09080706}, frame)
		}
	}
}

// A Key and a Seq are 0 where there is none, whatever stands where they would.
func TestDecapOfNoKeyAndNoSeq(t *testing.T) {
	frame := bytes.Repeat([]byte{0xFF}, 60)
	for n := range 8 {
		h, got, err := Decap(packetOf(way(n, 1<<32-1, 1<<32-1), frame))
		if err != nil || !bytes.Equal(got, frame) {
			t.Fatalf("way %d: %v", n, err)
		}
		if !h.Keyed && h.Key != 0 || !h.Seqed && h.Seq != 0 {
			t.Fatalf("way %d: got %+v", n, h)
		}
	}
}

// Each bit of each byte that is summed makes another sum: of the sum itself,
// the two bytes behind it, the other fields, and the frame.
func TestDecapOfSumsThatAreNotRight(t *testing.T) {
	for n := 1; n < 8; n += 2 {
		for _, size := range []int{14, 15, 60, 9000} {
			h := way(n, 0x80000001, 0x7FFFFFFF)
			b := packetOf(h, samples.Frame(size))
			wantFrame(t, "a sum that is right", b, h, samples.Frame(size))
			for bit := 4 * 8; bit < 8*min(len(b), 80); bit++ {
				b[bit/8] ^= 1 << (bit % 8)
				wantRefused(t, "a sum that is not right", b, api.ErrSum)
				b[bit/8] ^= 1 << (bit % 8)
			}
			b[len(b)-1] ^= 0x10
			wantRefused(t, "another last byte", b, api.ErrSum)
		}
	}
}

func TestDecapOfEachSum(t *testing.T) {
	b := packetOf(Header{Sum: true, Seqed: true, Seq: 5}, samples.Frame(15))
	right := int(b[4])<<8 | int(b[5])
	for n := range 1 << 16 {
		b[4], b[5] = byte(n>>8), byte(n)
		if n == right {
			wantFrame(t, "the sum", b, Header{Sum: true, Seqed: true, Seq: 5}, samples.Frame(15))
		} else {
			wantRefused(t, "another sum", b, api.ErrSum)
		}
	}
}

// A flag that is taken away, or put there, makes another sum too, where there
// still is one.
func TestDecapOfSumsOfOtherFlags(t *testing.T) {
	for n := 1; n < 8; n += 2 {
		b := packetOf(way(n, 1, 2), samples.Frame(60))
		for _, flag := range []byte{0x20, 0x10, 0x30} {
			b[0] ^= flag
			wantRefused(t, "another flag", b, api.ErrSum)
			b[0] ^= flag
		}
	}
}

// By B1's words a packet whose sum is 0 is Valid with FFFF in its place too.
func TestDecapOfASumOf0(t *testing.T) {
	frame := append(make([]byte, 12), 0x1A, 0xA7)
	for _, x := range []byte{0, 0xFF} {
		wantFrame(t, "a sum of 0", told([]byte{0x80, 0, 0x65, 0x58, x, x, 0, 0}, frame), Header{Sum: true}, frame)
	}
	for _, sum := range [][]byte{{0, 0xFF}, {0xFF, 0}, {0, 1}, {0xFF, 0xFE}} {
		wantRefused(t, "another sum", slices.Concat([]byte{0x80, 0, 0x65, 0x58}, sum, []byte{0, 0}, frame), api.ErrSum)
	}
}

// The two bytes behind a sum mean nothing; but they are summed.
func TestDecapOfTheTwoBytesBehindASum(t *testing.T) {
	h, frame := Header{Sum: true, Keyed: true, Key: 7}, samples.Frame(14)
	for n := range 1 << 16 {
		b := packetOf(h, frame)
		b[6], b[7] = byte(n>>8), byte(n)
		if n%0xFFFF != 0 {
			wantRefused(t, "two bytes that are not in the sum", b, api.ErrSum)
		}
		wantFrame(t, "two bytes that mean nothing", summed(b), h, frame)
	}
}

// Where the flags tell of no sum none is looked at.
func TestDecapOfNoSum(t *testing.T) {
	for _, n := range []int{0, 2, 4, 6} {
		h := way(n, 0x01020304, 9)
		for size := 14; size < 80; size++ {
			noise := samples.Noise(size)
			frame := noise.Bytes(size)
			wantFrame(t, "no sum", packetOf(h, frame), h, frame)
		}
	}
}

// Two faults beside each other: the first one is told.
func TestDecapTellsTheFirstOfTwo(t *testing.T) {
	for _, b := range [][]byte{{0x40, 0, 0x65}, {0, 1, 0x65}, {0xFF, 0xFF, 0}, {0x40}} {
		wantCut(t, "fewer than four bytes, and another bit", b)
	}
	wantCut(t, "fewer than four bytes, and another protocol", []byte{0, 0, 0x64})
	for _, c := range []struct {
		name string
		b    []byte
		code api.Errno
	}{
		{"another bit, and another protocol", told([]byte{0x40, 0, 0x65, 0x59}, samples.Frame(14)), api.ErrForm},
		{"the lowest bit, and another protocol", told([]byte{0, 1, 0x64, 0x58}, samples.Frame(14)), api.ErrForm},
		{"another bit, and a field that is not whole", []byte{0x28, 0, 0x65, 0x58, 0, 0, 0}, api.ErrForm},
		{"another bit, and a wrong sum", told([]byte{0x84, 0, 0x65, 0x58, 1, 1, 0, 0}, samples.Frame(14)), api.ErrForm},
		{"another bit, and no frame", []byte{0, 8, 0x65, 0x58}, api.ErrForm},
		{"another protocol, and a sum that is not whole", []byte{0x80, 0, 0x65, 0x59, 0, 0, 0}, api.ErrProto},
		{"another protocol, and a Key that is not whole", []byte{0x20, 0, 0x08, 0, 0, 0}, api.ErrProto},
		{"another protocol, and a Seq that is not there", []byte{0x10, 0, 0x58, 0x65}, api.ErrProto},
		{"another protocol, and a wrong sum", told([]byte{0x80, 0, 0x65, 0x50, 1, 1, 0, 0}, samples.Frame(14)), api.ErrProto},
		{"another protocol, and no frame", []byte{0, 0, 0x65, 0x57}, api.ErrProto},
		{"another protocol, and a large frame", told([]byte{0, 0, 0x65, 0x57}, samples.Frame(9001)), api.ErrProto},
		{"a wrong sum, and no frame", []byte{0x80, 0, 0x65, 0x58, 0, 0, 0, 0}, api.ErrSum},
		{"a wrong sum, and a short frame", told([]byte{0xB0, 0, 0x65, 0x58, 0, 0, 0, 0, 1, 2, 3, 4, 5, 6, 7, 8}, samples.Frame(13)), api.ErrSum},
		{"a wrong sum, and a large frame", told([]byte{0x80, 0, 0x65, 0x58, 0, 0, 0, 0}, samples.Frame(9001)), api.ErrSum},
	} {
		wantRefused(t, c.name, c.b, c.code)
	}
	wantCut(t, "a Key that is not whole, and a wrong sum", []byte{0xA0, 0, 0x65, 0x58, 1, 1, 0, 0, 0, 0, 0})
	wantCut(t, "a Seq that is not there, and a wrong sum", []byte{0x90, 0, 0x65, 0x58, 1, 1, 0, 0})
	wantCut(t, "a Seq that is not whole behind a Key, and a wrong sum", []byte{0xB0, 0, 0x65, 0x58, 1, 1, 0, 0, 0, 0, 0, 0, 1, 1})
}

func TestDecapKeepsNothingThatItWasHanded(t *testing.T) {
	for _, c := range packets {
		behind := bytes.Repeat([]byte{0xAA}, 16)
		b := slices.Concat(c.head, c.frame, behind)
		h, frame, err := Decap(b[:len(b)-16])
		if !bytes.Equal(b, slices.Concat(c.head, c.frame, behind)) {
			t.Fatalf("%s: Decap has changed what it was handed", c.name)
		}
		samples.Spoil(b)
		if err != nil || h != c.h || !bytes.Equal(frame, c.frame) {
			t.Fatalf("%s: got %+v, %.40X, %v once the bytes were written over", c.name, h, frame, err)
		}
		wantRefused(t, "the bytes that were written over", b, api.ErrForm)
	}
}

func TestWhatIsToldIsTheCallers(t *testing.T) {
	for _, c := range packets {
		behind := bytes.Repeat([]byte{0xAA}, 16)
		b := slices.Concat(c.head, c.frame, behind)
		_, first, _ := Decap(b[:len(b)-16])
		h, second, err := Decap(b[:len(b)-16])
		samples.Spoil(first)
		if err != nil || h != c.h || !bytes.Equal(second, c.frame) {
			t.Fatalf("%s: two frames share bytes: %+v, %.40X, %v", c.name, h, second, err)
		}
		if !bytes.Equal(b, slices.Concat(c.head, c.frame, behind)) {
			t.Fatalf("%s: a frame shares what Decap was handed", c.name)
		}
	}
}

func TestDecapLeavesWhatItRefuses(t *testing.T) {
	for n := range 8 {
		for _, size := range []int{0, 3, 4, 7, 8, 15, 16, 29, 9001 + 16} {
			b := told(headOf(way(n, 1, 2)), samples.Frame(9001))[:size]
			want := bytes.Clone(b)
			_, _, _ = Decap(b)
			if !bytes.Equal(b, want) {
				t.Fatalf("way %d: %d bytes were changed", n, size)
			}
		}
	}
}
