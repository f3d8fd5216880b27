package vxlan

import (
	"bytes"
	"testing"

	"underpass/api"
	"underpass/samples"
)

func TestEncapOfEachByteOfAnID(t *testing.T) {
	frame := samples.Frame(20)
	for n := range uint32(256) {
		for shift := 0; shift < 24; shift += 8 {
			id := uint32(0x414243)&^(0xFF<<shift) | n<<shift
			head := []byte{0x08, 0, 0, 0, byte(id >> 16), byte(id >> 8), byte(id), 0}
			wantPacket(t, "an id", id, frame, told(head, frame))
		}
	}
}

func TestEncapOfIDsThatAreTooLarge(t *testing.T) {
	for _, id := range []uint32{1 << 24, 1<<24 + 1, 1<<24 + 5, 1<<25 - 1, 1 << 25, 0x05000000, 0x7FFFFFFF, 1 << 31, 0xFF000000, 1<<32 - 2, 1<<32 - 1} {
		for _, size := range []int{14, 60, 9000} {
			wantNoPacket(t, "an id of four bytes", id, samples.Frame(size), api.ErrArg)
		}
	}
	for bit := 24; bit < 32; bit++ {
		wantNoPacket(t, "an id of one bit", 1<<bit, samples.Frame(14), api.ErrArg)
		wantNoPacket(t, "an id that were one without a bit", 1<<bit|5, samples.Frame(14), api.ErrArg)
	}
	wantPacket(t, "the highest id", 1<<24-1, samples.Frame(14), told([]byte{0x08, 0, 0, 0, 0xFF, 0xFF, 0xFF, 0}, samples.Frame(14)))
}

func TestEncapOfEachSmallFrame(t *testing.T) {
	head := []byte{0x08, 0, 0, 0, 0, 0, 9, 0}
	for n := range 300 {
		if frame := samples.Frame(n); n < 14 {
			wantNoPacket(t, "a frame of fewer than 14 bytes", 9, frame, api.ErrShort)
		} else {
			wantPacket(t, "a frame of 14 bytes or more", 9, frame, told(head, frame))
		}
	}
	wantNoPacket(t, "nil", 9, nil, api.ErrShort)
	wantNoPacket(t, "no bytes, but room", 9, make([]byte, 0, 60), api.ErrShort)
}

func TestEncapOfTheLargestFrames(t *testing.T) {
	head := []byte{0x08, 0, 0, 0, 0, 0, 9, 0}
	for n := 8980; n <= 9000; n++ {
		wantPacket(t, "a frame of 9000 bytes or fewer", 9, samples.Frame(n), told(head, samples.Frame(n)))
	}
	for _, n := range []int{9001, 9002, 9008, 9014, 16384, 65536, 65536 + 14, 1000000} {
		wantNoPacket(t, "a frame of more than 9000 bytes", 9, samples.Frame(n), api.ErrBig)
	}
}

// Of several errors the first one is told: that of the id.
func TestEncapTellsTheIDFirst(t *testing.T) {
	for _, id := range []uint32{1 << 24, 0x01000005, 1<<32 - 1} {
		for _, n := range []int{0, 1, 13, 14, 9000, 9001, 65536} {
			wantNoPacket(t, "an id that may not be", id, samples.Frame(n), api.ErrArg)
		}
		wantNoPacket(t, "an id that may not be, and nil", id, nil, api.ErrArg)
	}
	for _, id := range []uint32{0, 5, 1<<24 - 1} {
		wantNoPacket(t, "a frame that is shorter", id, samples.Frame(13), api.ErrShort)
		wantNoPacket(t, "a frame that is longer", id, samples.Frame(9001), api.ErrBig)
	}
}

// Bytes behind the end, in the room of a frame, are none of it.
func TestEncapLooksAtNoBytesBehindTheEnd(t *testing.T) {
	room := samples.Frame(9100)
	wantNoPacket(t, "13 bytes with more in their room", 1, room[:13], api.ErrShort)
	for _, n := range []int{14, 60, 9000} {
		wantPacket(t, "a frame with more in its room", 1, room[:n], told([]byte{0x08, 0, 0, 0, 0, 0, 1, 0}, room[:n]))
	}
	if !bytes.Equal(room, samples.Frame(9100)) {
		t.Fatal("Encap has written into a frame's room")
	}
}

func TestEncapKeepsNothingOfTheFrame(t *testing.T) {
	for _, c := range packets {
		room := append(bytes.Clone(c.frame), bytes.Repeat([]byte{0xAA}, 16)...)
		frame := room[:len(c.frame)]
		first, _ := Encap(c.id, frame)
		second, err := Encap(c.id, frame)
		clear(append(first, 9, 9))
		clear(first)
		if !bytes.Equal(frame, c.frame) || !bytes.Equal(room[len(frame):], bytes.Repeat([]byte{0xAA}, 16)) {
			t.Fatalf("%s: the packet shares the frame's bytes", c.name)
		}
		for i := range room {
			room[i] = 0xEE
		}
		if err != nil || !bytes.Equal(second, told(c.head, c.frame)) {
			t.Fatalf("%s: got %.40X, %v once the frame was written over", c.name, second, err)
		}
		wantPacket(t, c.name, c.id, c.frame, told(c.head, c.frame))
	}
}

func TestEncapLeavesWhatItRefuses(t *testing.T) {
	for _, n := range []int{0, 13, 14, 9000, 9001} {
		for _, id := range []uint32{5, 1 << 24} {
			frame := samples.Frame(n)
			_, _ = Encap(id, frame)
			if !bytes.Equal(frame, samples.Frame(n)) {
				t.Fatalf("id %d: %d bytes were changed", id, n)
			}
		}
	}
}
