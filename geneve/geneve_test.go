package geneve

import (
	"bytes"
	"slices"
	"testing"

	"underpass/api"
	"underpass/samples"
)

// packets are ids, options and frames, each with the bytes ahead of the frame.
var packets = []struct {
	name  string
	id    uint32
	l     []api.Option
	frame []byte
	head  []byte
}{
	{"the chapter's example", 5, nil, samples.Frame(14), []byte{0, 0, 0x65, 0x58, 0, 0, 5, 0}},
	{"a list of no options", 0, []api.Option{}, samples.Frame(60), []byte{0, 0, 0x65, 0x58, 0, 0, 0, 0}},
	{"the highest id", 1<<24 - 1, nil, samples.Frame(9000), []byte{0, 0, 0x65, 0x58, 0xFF, 0xFF, 0xFF, 0}},
	{"an option without a B", 0x123456, []api.Option{{Class: 0x0102, Type: 0x7F}}, samples.Frame(64),
		[]byte{1, 0, 0x65, 0x58, 0x12, 0x34, 0x56, 0, 1, 2, 0x7F, 0}},
	{"an option of no more than noughts", 1, []api.Option{{B: []byte{}}}, samples.Frame(15),
		[]byte{1, 0, 0x65, 0x58, 0, 0, 1, 0, 0, 0, 0, 0}},
	{"an option with four bytes", 0x010000, []api.Option{{Class: 0xFFFF, Type: 1, B: []byte{9, 8, 7, 6}}}, samples.Frame(1514),
		[]byte{2, 0, 0x65, 0x58, 1, 0, 0, 0, 0xFF, 0xFF, 1, 1, 9, 8, 7, 6}},
	{"a critical option", 0x000100, []api.Option{{Class: 0xA1B2, Type: 0x80, B: []byte{1, 2, 3, 4}}}, samples.Frame(61),
		[]byte{2, 0x40, 0x65, 0x58, 0, 1, 0, 0, 0xA1, 0xB2, 0x80, 1, 1, 2, 3, 4}},
	{"the first of two is critical", 2, []api.Option{{Class: 1, Type: 0xFF}, {Class: 2, Type: 0, B: []byte{5, 5, 5, 5, 6, 6, 6, 6}}}, samples.Frame(8999),
		[]byte{4, 0x40, 0x65, 0x58, 0, 0, 2, 0, 0, 1, 0xFF, 0, 0, 2, 0, 2, 5, 5, 5, 5, 6, 6, 6, 6}},
	{"the last of two is critical", 3, []api.Option{{Class: 1, Type: 0x7F}, {Class: 1, Type: 0x81}}, make([]byte, 100),
		[]byte{2, 0x40, 0x65, 0x58, 0, 0, 3, 0, 0, 1, 0x7F, 0, 0, 1, 0x81, 0}},
	{"two that are alike", 4, []api.Option{{Class: 3, Type: 4, B: []byte{1, 1, 1, 1}}, {Class: 3, Type: 4, B: []byte{1, 1, 1, 1}}}, samples.Frame(20),
		[]byte{4, 0, 0x65, 0x58, 0, 0, 4, 0, 0, 3, 4, 1, 1, 1, 1, 1, 0, 3, 4, 1, 1, 1, 1, 1}},
	{"the largest option", 6, []api.Option{{Class: 0x0A0B, Type: 0x0C, B: samples.Frame(124)}}, samples.Frame(30),
		append([]byte{32, 0, 0x65, 0x58, 0, 0, 6, 0, 0x0A, 0x0B, 0x0C, 31}, samples.Frame(124)...)},
	{"the largest list", 7, []api.Option{{Class: 1, Type: 2, B: samples.Frame(124)}, {Class: 3, Type: 0x84, B: samples.Frame(120)}}, samples.Frame(31),
		slices.Concat([]byte{63, 0x40, 0x65, 0x58, 0, 0, 7, 0, 0, 1, 2, 31}, samples.Frame(124), []byte{0, 3, 0x84, 30}, samples.Frame(120))},
	{"a frame that looks like a packet", 8, nil, []byte{1, 0, 0x65, 0x58, 0, 0, 9, 0, 0, 1, 2, 0, 7, 7, 7, 7}, []byte{0, 0, 0x65, 0x58, 0, 0, 8, 0}},
}

// listOf is a list of options with Bs of so many bytes.
func listOf(sizes ...int) []api.Option {
	var l []api.Option
	for i, n := range sizes {
		l = append(l, api.Option{Class: uint16(i + 0x100), Type: uint8(i % 128), B: samples.Frame(n)})
	}
	return l
}

// told is what stands in the packet: what is ahead of the frame, and the frame.
func told(head, frame []byte) []byte { return append(bytes.Clone(head), frame...) }

// wantError asks for an error of this layer's own.
func wantError(t *testing.T, what string, err error, code api.Errno) {
	t.Helper()
	if !samples.IsWrong(err, code, "geneve") {
		t.Fatalf("%s: got %v, want %v of geneve", what, err, code)
	}
}

func wantRight(t *testing.T, what string, l []api.Option) {
	t.Helper()
	if err := Right(l); err != nil {
		t.Fatalf("%s: Right: got %v", what, err)
	}
}

func wantNotRight(t *testing.T, what string, l []api.Option, code api.Errno) {
	t.Helper()
	wantError(t, what+": Right", Right(l), code)
}

func wantPacket(t *testing.T, what string, id uint32, l []api.Option, frame, want []byte) {
	t.Helper()
	if b, err := Encap(id, l, frame); err != nil || !bytes.Equal(b, want) {
		t.Fatalf("%s: Encap: got %d bytes, %.60X, %v, want %d, %.60X", what, len(b), b, err, len(want), want)
	}
}

func wantNoPacket(t *testing.T, what string, id uint32, l []api.Option, frame []byte, code api.Errno) {
	t.Helper()
	b, err := Encap(id, l, frame)
	wantError(t, what+": Encap", err, code)
	if b != nil {
		t.Fatalf("%s: Encap: %d bytes beside the error", what, len(b))
	}
}

func wantFrame(t *testing.T, what string, b []byte, id uint32, l []api.Option, want []byte) {
	t.Helper()
	n, got, frame, err := Decap(b)
	if err != nil || n != id || !bytes.Equal(frame, want) {
		t.Fatalf("%s: Decap: got id %d, %d bytes, %.40X, %v, want id %d, %d, %.40X", what, n, len(frame), frame, err, id, len(want), want)
	}
	if !samples.Alike(got, l) {
		t.Fatalf("%s: Decap: got options %v, want %v", what, got, l)
	}
}

// wantNothing asks for nothing beside an error.
func wantNothing(t *testing.T, what string, id uint32, l []api.Option, frame []byte) {
	t.Helper()
	if id != 0 || l != nil || frame != nil {
		t.Fatalf("%s: Decap: id %d, %d options and %d bytes beside the error", what, id, len(l), len(frame))
	}
}

func wantNoFrame(t *testing.T, what string, b []byte, code api.Errno) {
	t.Helper()
	id, l, frame, err := Decap(b)
	wantError(t, what+": Decap", err, code)
	wantNothing(t, what, id, l, frame)
}

// wantCut asks for the error of octets, which bytes have that end ahead of the
// frame.
func wantCut(t *testing.T, what string, b []byte) {
	t.Helper()
	id, l, frame, err := Decap(b)
	if !samples.IsWrong(err, api.ErrShort, "geneve", "octets") {
		t.Fatalf("%s: Decap: got %v", what, err)
	}
	wantNothing(t, what, id, l, frame)
}

func TestEncapAndDecapOfPackets(t *testing.T) {
	for _, c := range packets {
		wantPacket(t, c.name, c.id, c.l, c.frame, told(c.head, c.frame))
		wantFrame(t, c.name, told(c.head, c.frame), c.id, c.l, c.frame)
	}
}

func TestTheChaptersExample(t *testing.T) {
	frame := samples.Frame(14)
	b, err := Encap(5, nil, frame)
	if err != nil || !bytes.Equal(b, append([]byte{0, 0, 0x65, 0x58, 0, 0, 5, 0}, frame...)) {
		t.Fatalf("got % X, %v", b, err)
	}
}

func TestWhatWasPutInComesOut(t *testing.T) {
	for _, l := range [][]api.Option{nil, listOf(0), listOf(124, 120), listOf(0, 4, 8, 0, 12), {{Class: 0xFFFF, Type: 0xFF, B: samples.Frame(40)}, {}}} {
		for bit := range 24 {
			for _, size := range []int{14, 60, 9000} {
				frame := samples.Frame(size)
				frame[bit%14] ^= 0xFF
				b, err := Encap(1<<bit, l, frame)
				if err != nil {
					t.Fatalf("id %d, %v, %d bytes: %v", 1<<bit, l, size, err)
				}
				wantFrame(t, "what was put in", b, 1<<bit, l, frame)
			}
		}
	}
}

func TestWhatCameOutIsPutIn(t *testing.T) {
	for _, c := range packets {
		b := told(c.head, c.frame)
		id, l, frame, err := Decap(b)
		if err != nil {
			t.Fatalf("%s: %v", c.name, err)
		}
		wantPacket(t, c.name, id, l, frame, b)
	}
}

// A frame in a packet in a packet comes out again as it was.
func TestAPacketInAPacket(t *testing.T) {
	frame := samples.Frame(100)
	b := frame
	for n := range 9 {
		b, _ = Encap(uint32(n), listOf(4*n), b)
	}
	for n := 8; n >= 0; n-- {
		id, l, inside, err := Decap(b)
		if err != nil || id != uint32(n) || !samples.Alike(l, listOf(4*n)) {
			t.Fatalf("got id %d, %v, %v, want %d", id, l, err, n)
		}
		b = inside
	}
	if !bytes.Equal(b, frame) {
		t.Fatalf("got %.40X", b)
	}
}
