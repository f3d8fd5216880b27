package geneve

import (
	"bytes"
	"testing"

	"underpass/api"
	"underpass/samples"
)

func TestEncapOfEachByteOfAnID(t *testing.T) {
	for n := range uint32(256) {
		for shift := 0; shift < 24; shift += 8 {
			id := uint32(0x414243)&^(0xFF<<shift) | n<<shift
			head := []byte{0, 0, 0x65, 0x58, byte(id >> 16), byte(id >> 8), byte(id), 0}
			wantPacket(t, "an id", id, nil, samples.Frame(20), told(head, samples.Frame(20)))
		}
	}
}

func TestEncapOfIDsThatAreTooLarge(t *testing.T) {
	for _, id := range []uint32{1 << 24, 1<<24 + 1, 1<<25 - 1, 0x05000000, 0x7FFFFFFF, 1<<32 - 2, 1<<32 - 1} {
		for _, size := range []int{14, 60, 9000} {
			wantNoPacket(t, "an id of four bytes", id, listOf(4), samples.Frame(size), api.ErrArg)
		}
	}
	for bit := 24; bit < 32; bit++ {
		wantNoPacket(t, "an id of one bit", 1<<bit, nil, samples.Frame(14), api.ErrArg)
		wantNoPacket(t, "an id that were one without a bit", 1<<bit|5, nil, samples.Frame(14), api.ErrArg)
	}
}

func TestEncapOfEachSmallFrame(t *testing.T) {
	head := []byte{1, 0, 0x65, 0x58, 0, 0, 9, 0, 0, 7, 8, 0}
	l := []api.Option{{Class: 7, Type: 8}}
	for n := range 300 {
		if frame := samples.Frame(n); n < 14 {
			wantNoPacket(t, "a frame of fewer than 14 bytes", 9, l, frame, api.ErrShort)
			wantNoPacket(t, "a frame of fewer than 14 bytes, and no options", 9, nil, frame, api.ErrShort)
		} else {
			wantPacket(t, "a frame of 14 bytes or more", 9, l, frame, told(head, frame))
		}
	}
	wantNoPacket(t, "nil", 9, l, nil, api.ErrShort)
	wantNoPacket(t, "no bytes, but room", 9, l, make([]byte, 0, 60), api.ErrShort)
}

func TestEncapOfTheLargestFrames(t *testing.T) {
	head := []byte{0, 0, 0x65, 0x58, 0, 0, 9, 0}
	for n := 8980; n <= 9000; n++ {
		wantPacket(t, "a frame of 9000 bytes or fewer", 9, nil, samples.Frame(n), told(head, samples.Frame(n)))
	}
	for _, n := range []int{9001, 9002, 9008, 9014, 16384, 65536, 65536 + 14, 1000000} {
		wantNoPacket(t, "a frame of more than 9000 bytes", 9, nil, samples.Frame(n), api.ErrBig)
	}
}

// Of several errors the first one is told.
func TestEncapTellsTheFirstOfSeveral(t *testing.T) {
	lists := []struct {
		l    []api.Option
		code api.Errno
	}{
		{nil, api.OK},
		{listOf(0, 4), api.OK},
		{listOf(124, 120), api.OK},
		{listOf(5), api.ErrArg},
		{listOf(128), api.ErrArg},
		{listOf(124, 124, 1), api.ErrArg},
		{listOf(124, 124), api.ErrBig},
		{make([]api.Option, 64), api.ErrBig},
	}
	for _, c := range lists {
		for _, n := range []int{0, 1, 13, 14, 9000, 9001, 65536} {
			for _, id := range []uint32{1 << 24, 1<<32 - 1} {
				wantNoPacket(t, "an id that may not be", id, c.l, samples.Frame(n), api.ErrArg)
			}
			for _, id := range []uint32{0, 5, 1<<24 - 1} {
				switch {
				case c.code != api.OK:
					wantNoPacket(t, "a list that may not be", id, c.l, samples.Frame(n), c.code)
				case n < 14:
					wantNoPacket(t, "a frame that is shorter", id, c.l, samples.Frame(n), api.ErrShort)
				case n > 9000:
					wantNoPacket(t, "a frame that is longer", id, c.l, samples.Frame(n), api.ErrBig)
				}
			}
		}
	}
}

func TestEncapOfEachSizeOfAnOption(t *testing.T) {
	for n := range 140 {
		l := []api.Option{{Class: 0x0102, Type: 3, B: samples.Frame(n)}}
		if n%4 != 0 || n > 124 {
			wantNoPacket(t, "a B that may not be so", 5, l, samples.Frame(14), api.ErrArg)
			continue
		}
		head := append([]byte{byte(1 + n/4), 0, 0x65, 0x58, 0, 0, 5, 0, 1, 2, 3, byte(n / 4)}, samples.Frame(n)...)
		wantPacket(t, "a B", 5, l, samples.Frame(14), told(head, samples.Frame(14)))
	}
}

func TestEncapOfEachNumberOfOptions(t *testing.T) {
	var l []api.Option
	var behind []byte
	for n := range 70 {
		if n > 63 {
			wantNoPacket(t, "more than 63 options", 5, l, samples.Frame(14), api.ErrBig)
		} else {
			head := append([]byte{byte(n), 0, 0x65, 0x58, 0, 0, 5, 0}, behind...)
			wantPacket(t, "options without a B", 5, l, samples.Frame(14), told(head, samples.Frame(14)))
		}
		l = append(l, api.Option{Class: uint16(n*257 + 1), Type: uint8(n)})
		behind = append(behind, byte((n*257+1)>>8), byte(n*257+1), byte(n), 0)
	}
}

func TestEncapOfEachClassAndType(t *testing.T) {
	for n := range 256 {
		var bit byte
		if n >= 128 {
			bit = 0x40
		}
		x := byte(n)
		head := []byte{2, bit, 0x65, 0x58, 0, 0, 5, 0, x, 0x11, x, 1, 1, 2, 3, 4}
		wantPacket(t, "a Type", 5, []api.Option{{Class: uint16(n)<<8 | 0x11, Type: x, B: []byte{1, 2, 3, 4}}}, samples.Frame(14), told(head, samples.Frame(14)))
		head = []byte{2, 0, 0x65, 0x58, 0, 0, 5, 0, 0x11, x, 0x7F, 1, x, x, x, x}
		wantPacket(t, "a Class", 5, []api.Option{{Class: 0x1100 | uint16(n), Type: 0x7F, B: []byte{x, x, x, x}}}, samples.Frame(14), told(head, samples.Frame(14)))
	}
}

// Bit 40 tells whether any option is critical, wherever it is, and however many
// are.
func TestEncapOfEachSetOfCriticalOptions(t *testing.T) {
	for set := range 1 << 5 {
		head := []byte{5, 0, 0x65, 0x58, 0, 0, 5, 0}
		if set != 0 {
			head[1] = 0x40
		}
		var l []api.Option
		for i := range 5 {
			kind := byte(i)
			if set>>i&1 == 1 {
				kind |= 0x80
			}
			l = append(l, api.Option{Class: 0x8080, Type: kind})
			head = append(head, 0x80, 0x80, kind, 0)
		}
		wantPacket(t, "some critical options", 5, l, samples.Frame(14), told(head, samples.Frame(14)))
		wantFrame(t, "some critical options", told(head, samples.Frame(14)), 5, l, samples.Frame(14))
		head[1] ^= 0x40
		wantNoFrame(t, "the bit turned round", told(head, samples.Frame(14)), api.ErrForm)
	}
}

// Bytes behind the end, in the room of what is handed in, are none of it.
func TestEncapLooksAtNoBytesBehindTheEnd(t *testing.T) {
	room := samples.Frame(9100)
	l := listOf(4, 1, 1)[:1:3]
	l[0].B = room[:4]
	head := append([]byte{2, 0, 0x65, 0x58, 0, 0, 1, 0, 1, 0, 0, 1}, room[:4]...)
	wantNoPacket(t, "13 bytes with more in their room", 1, l, room[:13], api.ErrShort)
	for _, n := range []int{14, 60, 9000} {
		wantPacket(t, "a frame with more in its room", 1, l, room[:n], told(head, room[:n]))
	}
	if !bytes.Equal(room, samples.Frame(9100)) || !samples.Alike(l[:3], append(samples.Own(l), listOf(4, 1, 1)[1:]...)) {
		t.Fatal("Encap has written into the room of what it was handed")
	}
}

func TestEncapKeepsNothingThatItWasHanded(t *testing.T) {
	for _, c := range packets {
		room := append(bytes.Clone(c.frame), bytes.Repeat([]byte{0xAA}, 16)...)
		frame := room[:len(c.frame)]
		l := samples.Own(c.l)
		first, _ := Encap(c.id, l, frame)
		second, err := Encap(c.id, l, frame)
		clear(append(first, 9, 9))
		clear(first)
		if !bytes.Equal(frame, c.frame) || !bytes.Equal(room[len(frame):], bytes.Repeat([]byte{0xAA}, 16)) || !samples.Alike(l, c.l) {
			t.Fatalf("%s: the packet shares what Encap was handed", c.name)
		}
		for i := range room {
			room[i] = 0xEE
		}
		for i := range l {
			clear(l[i].B)
			l[i] = api.Option{Class: 0xEEEE}
		}
		if err != nil || !bytes.Equal(second, told(c.head, c.frame)) {
			t.Fatalf("%s: got %.60X, %v once what was handed in was written over", c.name, second, err)
		}
		wantPacket(t, c.name, c.id, c.l, c.frame, told(c.head, c.frame))
	}
}

func TestEncapOfOptionsThatShareTheirBytes(t *testing.T) {
	b := []byte{1, 2, 3, 4, 5, 6, 7, 8}
	l := []api.Option{{Class: 1, Type: 1, B: b}, {Class: 2, Type: 2, B: b[:4]}, {Class: 3, Type: 3, B: b[4:]}}
	head := []byte{7, 0, 0x65, 0x58, 0, 0, 5, 0, 0, 1, 1, 2, 1, 2, 3, 4, 5, 6, 7, 8, 0, 2, 2, 1, 1, 2, 3, 4, 0, 3, 3, 1, 5, 6, 7, 8}
	wantPacket(t, "options that share their bytes", 5, l, samples.Frame(14), told(head, samples.Frame(14)))
}

func TestEncapLeavesWhatItRefuses(t *testing.T) {
	for _, n := range []int{0, 13, 14, 9000, 9001} {
		for _, id := range []uint32{5, 1 << 24} {
			for _, sizes := range [][]int{{4, 8}, {5}, {124, 124}} {
				frame, l := samples.Frame(n), listOf(sizes...)
				_, _ = Encap(id, l, frame)
				if !bytes.Equal(frame, samples.Frame(n)) || !samples.Alike(l, listOf(sizes...)) {
					t.Fatalf("id %d, %v: %d bytes, or the options, were changed", id, sizes, n)
				}
			}
		}
	}
}
