package vxlan

import (
	"bytes"
	"testing"

	"underpass/api"
	"underpass/samples"
)

// packets are ids and frames, each with the eight bytes ahead of the frame.
var packets = []struct {
	name  string
	id    uint32
	frame []byte
	head  []byte
}{
	{"the chapter's example", 5, samples.Frame(14), []byte{0x08, 0, 0, 0, 0, 0, 5, 0}},
	{"an id of 0", 0, samples.Frame(60), []byte{0x08, 0, 0, 0, 0, 0, 0, 0}},
	{"an id of 1", 1, samples.Frame(61), []byte{0x08, 0, 0, 0, 0, 0, 1, 0}},
	{"an id whose bytes are all unlike", 0x123456, samples.Frame(64), []byte{0x08, 0, 0, 0, 0x12, 0x34, 0x56, 0}},
	{"the highest id", 0xFFFFFF, samples.Frame(1514), []byte{0x08, 0, 0, 0, 0xFF, 0xFF, 0xFF, 0}},
	{"an id of the highest byte alone", 0x080000, samples.Frame(15), []byte{0x08, 0, 0, 0, 8, 0, 0, 0}},
	{"the largest frame", 0x0000FF, samples.Frame(9000), []byte{0x08, 0, 0, 0, 0, 0, 0xFF, 0}},
	{"a frame one smaller", 0x00FF00, samples.Frame(8999), []byte{0x08, 0, 0, 0, 0, 0xFF, 0, 0}},
	{"a frame of noughts", 0xFF0000, make([]byte, 100), []byte{0x08, 0, 0, 0, 0xFF, 0, 0, 0}},
	{"a frame that looks like a header", 7, []byte{8, 0, 0, 0, 0, 0, 9, 0, 8, 0, 0, 0, 0, 0, 9, 0}, []byte{0x08, 0, 0, 0, 0, 0, 7, 0}},
}

// told is what stands in the packet: the eight bytes and the frame.
func told(head, frame []byte) []byte { return append(bytes.Clone(head), frame...) }

// wantError asks for an error of this layer's own.
func wantError(t *testing.T, what string, err error, code api.Errno) {
	t.Helper()
	if !samples.IsWrong(err, code, "vxlan") {
		t.Fatalf("%s: got %v, want %v of vxlan", what, err, code)
	}
}

func wantPacket(t *testing.T, what string, id uint32, frame, want []byte) {
	t.Helper()
	if b, err := Encap(id, frame); err != nil || !bytes.Equal(b, want) {
		t.Fatalf("%s: Encap: got %d bytes, %.40X, %v, want %d, %.40X", what, len(b), b, err, len(want), want)
	}
}

func wantNoPacket(t *testing.T, what string, id uint32, frame []byte, code api.Errno) {
	t.Helper()
	b, err := Encap(id, frame)
	wantError(t, what+": Encap", err, code)
	if b != nil {
		t.Fatalf("%s: Encap: %d bytes beside the error", what, len(b))
	}
}

func wantFrame(t *testing.T, what string, b []byte, id uint32, want []byte) {
	t.Helper()
	if n, frame, err := Decap(b); err != nil || n != id || !bytes.Equal(frame, want) {
		t.Fatalf("%s: Decap: got id %d, %d bytes, %.40X, %v, want id %d, %d, %.40X", what, n, len(frame), frame, err, id, len(want), want)
	}
}

// wantNothing asks for nothing beside an error.
func wantNothing(t *testing.T, what string, id uint32, frame []byte) {
	t.Helper()
	if id != 0 || frame != nil {
		t.Fatalf("%s: Decap: id %d and %d bytes beside the error", what, id, len(frame))
	}
}

func wantNoFrame(t *testing.T, what string, b []byte, code api.Errno) {
	t.Helper()
	id, frame, err := Decap(b)
	wantError(t, what+": Decap", err, code)
	wantNothing(t, what, id, frame)
}

// wantNoHead asks for the error of octets, which fewer than eight bytes have.
func wantNoHead(t *testing.T, what string, b []byte) {
	t.Helper()
	id, frame, err := Decap(b)
	if !samples.IsWrong(err, api.ErrShort, "vxlan", "octets") {
		t.Fatalf("%s: Decap: got %v", what, err)
	}
	wantNothing(t, what, id, frame)
}

func TestEncapAndDecapOfPackets(t *testing.T) {
	for _, c := range packets {
		wantPacket(t, c.name, c.id, c.frame, told(c.head, c.frame))
		wantFrame(t, c.name, told(c.head, c.frame), c.id, c.frame)
	}
}

func TestTheChaptersExample(t *testing.T) {
	frame := samples.Frame(14)
	b, err := Encap(5, frame)
	if err != nil || !bytes.Equal(b, append([]byte{0x08, 0, 0, 0, 0, 0, 0x05, 0}, frame...)) {
		t.Fatalf("got % X, %v", b, err)
	}
}

func TestWhatWasPutInComesOut(t *testing.T) {
	for _, size := range []int{14, 15, 59, 60, 1514, 8999, 9000} {
		for bit := range 24 {
			for _, id := range []uint32{1 << bit, 0xFFFFFF ^ 1<<bit, 1<<bit - 1} {
				frame := samples.Frame(size)
				frame[bit%14] ^= 0xFF
				b, err := Encap(id, frame)
				if err != nil {
					t.Fatalf("id %d, %d bytes: %v", id, size, err)
				}
				wantFrame(t, "what was put in", b, id, frame)
			}
		}
	}
}

func TestWhatCameOutIsPutIn(t *testing.T) {
	for _, c := range packets {
		b := told(c.head, c.frame)
		id, frame, err := Decap(b)
		if err != nil {
			t.Fatalf("%s: %v", c.name, err)
		}
		wantPacket(t, c.name, id, frame, b)
	}
}

// A frame in a packet in a packet comes out again as it was.
func TestAPacketInAPacket(t *testing.T) {
	frame := samples.Frame(100)
	b := frame
	for id := range uint32(9) {
		b, _ = Encap(id, b)
	}
	if len(b) != 100+9*8 {
		t.Fatalf("%d bytes", len(b))
	}
	for id := range uint32(9) {
		var got uint32
		var err error
		if got, b, err = Decap(b); err != nil || got != 8-id {
			t.Fatalf("got id %d, %v, want %d", got, err, 8-id)
		}
	}
	if !bytes.Equal(b, frame) {
		t.Fatalf("got % X, want % X", b, frame)
	}
}
