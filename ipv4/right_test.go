package ipv4

import (
	"bytes"
	"math"
	"reflect"
	"strconv"
	"testing"

	"underpass/api"
)

// part is a packet of this place, with more behind it or none, and size bytes.
func part(off int, more bool, size int) Packet {
	p := ordinary(bytes.Repeat([]byte{0x33}, size)...)
	p.Off, p.MF = off, more
	return p
}

var parts = []struct {
	name string
	off  int
	more bool
	size int
	code api.Errno
}{
	{"no bytes", 0, false, 0, api.OK},
	{"one byte", 0, false, 1, api.OK},
	{"Off 8", 8, false, 0, api.OK},
	{"Off 8 and 9 bytes", 8, false, 9, api.OK},
	{"Off -1", -1, false, 8, api.ErrArg},
	{"Off -8", -8, false, 8, api.ErrArg},
	{"Off -65536", -65536, false, 8, api.ErrArg},
	{"the lowest Off", math.MinInt, false, 8, api.ErrArg},
	{"the lowest Off of 32 bits", math.MinInt32, false, 8, api.ErrArg},
	{"Off 1", 1, false, 8, api.ErrArg},
	{"Off 4", 4, false, 8, api.ErrArg},
	{"Off 7", 7, false, 8, api.ErrArg},
	{"Off 9", 9, false, 8, api.ErrArg},
	{"Off 12", 12, false, 8, api.ErrArg},
	{"Off 65511", 65511, false, 0, api.ErrArg},
	{"more, and no bytes", 0, true, 0, api.ErrArg},
	{"more, and one byte", 0, true, 1, api.ErrArg},
	{"more, and 7 bytes", 0, true, 7, api.ErrArg},
	{"more, and 8 bytes", 0, true, 8, api.OK},
	{"more, and 9 bytes", 0, true, 9, api.ErrArg},
	{"more, and 12 bytes", 0, true, 12, api.ErrArg},
	{"more, and 16 bytes", 0, true, 16, api.OK},
	{"more, and no bytes, Off 8", 8, true, 0, api.ErrArg},
	{"more, and 8 bytes, Off 8", 8, true, 8, api.OK},
	{"more, and 9 bytes, Off 8", 8, true, 9, api.ErrArg},
	{"65535 in all, by bytes", 0, false, 65515, api.OK},
	{"65536 in all, by bytes", 0, false, 65516, api.ErrBig},
	{"65535 in all, by both", 32768, false, 32747, api.OK},
	{"65536 in all, by both", 32768, false, 32748, api.ErrBig},
	{"65535 in all, by Off", 65512, false, 3, api.OK},
	{"65536 in all, by Off", 65512, false, 4, api.ErrBig},
	{"65532 in all, by Off alone", 65512, false, 0, api.OK},
	{"65540 in all, by Off alone", 65520, false, 0, api.ErrBig},
	{"more, and 65532 in all", 65504, true, 8, api.OK},
	{"more, and 65540 in all", 65512, true, 8, api.ErrBig},
	{"more, and 65532 in all, by bytes", 0, true, 65512, api.OK},
	{"more, and 65540 in all, by bytes", 0, true, 65520, api.ErrBig},
	{"Off 65536", 65536, false, 0, api.ErrBig},
	{"a million bytes", 0, false, 1000000, api.ErrBig},
	{"the highest Off", math.MaxInt, false, 0, api.ErrArg},
	{"the highest Off of eights", math.MaxInt - 7, false, 0, api.ErrBig},
	{"the highest Off of eights, and some bytes", math.MaxInt - 7, false, 100, api.ErrBig},
	{"the highest Off of eights, and many bytes", math.MaxInt - 7, false, 70000, api.ErrBig},
	{"the highest Off of eights, more, and 8 bytes", math.MaxInt - 7, true, 8, api.ErrBig},
	{"Off of a high bit alone", 1 << (strconv.IntSize - 2), false, 8, api.ErrBig},
	{"an argument told ahead of the size: Off -8", -8, false, 70000, api.ErrArg},
	{"an argument told ahead of the size: Off 3", 3, false, 70000, api.ErrArg},
	{"an argument told ahead of the size: Off 65537", 65537, false, 0, api.ErrArg},
	{"an argument told ahead of the size: more, and no bytes", 65536, true, 0, api.ErrArg},
	{"an argument told ahead of the size: more, and 9 bytes", 65536, true, 9, api.ErrArg},
	{"an argument told ahead of the size: more, and 70001 bytes", 0, true, 70001, api.ErrArg},
}

func TestRight(t *testing.T) {
	for _, c := range parts {
		err := Right(part(c.off, c.more, c.size))
		if c.code != api.OK {
			wantError(t, c.name, err, c.code)
		} else if err != nil {
			t.Errorf("%s: %v", c.name, err)
		}
	}
}

func TestBytesOfPartsThatAreRightAndOfOthers(t *testing.T) {
	for _, c := range parts {
		p := part(c.off, c.more, c.size)
		if c.code == api.OK {
			wantBytes(t, c.name, p, told(p))
			continue
		}
		b, err := p.Bytes()
		wantError(t, c.name, err, c.code)
		if len(b) != 0 || !reflect.DeepEqual(err, Right(p)) {
			t.Errorf("%s: %d bytes beside %v, and Right tells %v", c.name, len(b), err, Right(p))
		}
	}
}

func TestRightOfEachSmallPart(t *testing.T) {
	for off := -33; off <= 33; off++ {
		for size := range 34 {
			placed := off == 0 || off == 8 || off == 16 || off == 24 || off == 32
			if err := Right(part(off, false, size)); (err == nil) != placed {
				t.Fatalf("Off %d, %d bytes: %v", off, size, err)
			}
			followed := size == 8 || size == 16 || size == 24 || size == 32
			if err := Right(part(off, true, size)); (err == nil) != (placed && followed) {
				t.Fatalf("Off %d, more, %d bytes: %v", off, size, err)
			}
		}
	}
}

// The sizes on either side of the largest, at each Off that there is.
func TestRightAtTheLargestSize(t *testing.T) {
	b := make([]byte, 65536)
	for off := 0; off <= 65512; off += 8 {
		p := Packet{Off: off, B: b[:65515-off]}
		if err := Right(p); err != nil {
			t.Fatalf("Off %d, %d bytes: %v", off, len(p.B), err)
		}
		p.B = b[:65516-off]
		wantError(t, "one byte more", Right(p), api.ErrBig)
	}
}

// No field but Off, MF and B makes a packet wrong, and no number of it.
func TestRightOfOtherFields(t *testing.T) {
	for _, c := range packets {
		if err := Right(c.packet); err != nil {
			t.Errorf("%s: %v", c.name, err)
		}
	}
	if err := Right(Packet{MF: false, DF: true, Off: 8}); err != nil {
		t.Errorf("a part that may not be split: %v", err)
	}
	wantError(t, "more, and nil", Right(Packet{MF: true}), api.ErrArg)
	wantError(t, "more, and no bytes", Right(Packet{MF: true, B: []byte{}}), api.ErrArg)
	// Bytes behind the end, in the room of B, are none of it.
	wantError(t, "more, and no bytes, in room", Right(Packet{MF: true, B: make([]byte, 0, 8)}), api.ErrArg)
	wantError(t, "more, and 7 bytes, in room", Right(Packet{MF: true, B: make([]byte, 7, 8)}), api.ErrArg)
}
