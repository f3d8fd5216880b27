package gre

import (
	"bytes"
	"errors"
	"slices"
	"testing"

	"underpass/api"
	"underpass/samples"
)

// packets are headers and frames, each with the bytes ahead of the frame.
var packets = []struct {
	name  string
	h     Header
	frame []byte
	head  []byte
}{
	{"no field", Header{}, samples.Frame(14), []byte{0, 0, 0x65, 0x58}},
	{"the chapter's example", Header{Keyed: true, Key: 5}, samples.Frame(60), []byte{0x20, 0, 0x65, 0x58, 0, 0, 0, 5}},
	{"the largest frame", Header{Keyed: true, Key: 0x01020304}, samples.Frame(9000), []byte{0x20, 0, 0x65, 0x58, 1, 2, 3, 4}},
	{"a key of noughts", Header{Keyed: true}, samples.Frame(15), []byte{0x20, 0, 0x65, 0x58, 0, 0, 0, 0}},
	{"a number", Header{Seqed: true, Seq: 0xF1F2F3F4}, samples.Frame(61), []byte{0x10, 0, 0x65, 0x58, 0xF1, 0xF2, 0xF3, 0xF4}},
	{"the first number", Header{Seqed: true}, samples.Frame(8999), []byte{0x10, 0, 0x65, 0x58, 0, 0, 0, 0}},
	{"a key and a number", Header{Keyed: true, Key: 1<<32 - 1, Seqed: true, Seq: 1 << 31}, samples.Frame(1514),
		[]byte{0x30, 0, 0x65, 0x58, 0xFF, 0xFF, 0xFF, 0xFF, 0x80, 0, 0, 0}},
	// 8000 and 6558 are E558.
	{"a sum", Header{Sum: true}, make([]byte, 14), []byte{0x80, 0, 0x65, 0x58, 0x1A, 0xA7, 0, 0}},
	{"a sum over an odd number of bytes", Header{Sum: true}, append(make([]byte, 14), 1), []byte{0x80, 0, 0x65, 0x58, 0x19, 0xA7, 0, 0}},
	{"a sum of 0", Header{Sum: true}, append(make([]byte, 12), 0x1A, 0xA7), []byte{0x80, 0, 0x65, 0x58, 0, 0, 0, 0}},
	// A000, 6558 and 5 are 1055D, and so 055E.
	{"a sum and a key", Header{Sum: true, Keyed: true, Key: 5}, make([]byte, 9000), []byte{0xA0, 0, 0x65, 0x58, 0xFA, 0xA1, 0, 0, 0, 0, 0, 5}},
	// 9000, 6558 and 8000 are 17558, and so 7559.
	{"a sum and a number", Header{Sum: true, Seqed: true, Seq: 1 << 31}, make([]byte, 100), []byte{0x90, 0, 0x65, 0x58, 0x8A, 0xA6, 0, 0, 0x80, 0, 0, 0}},
	// B000, 6558, 0102, 0304 and 8000 are 1995E, and so 995F.
	{"all fields", Header{Sum: true, Keyed: true, Key: 0x01020304, Seqed: true, Seq: 1 << 31}, make([]byte, 8999),
		[]byte{0xB0, 0, 0x65, 0x58, 0x66, 0xA0, 0, 0, 1, 2, 3, 4, 0x80, 0, 0, 0}},
	{"a frame that looks like a packet", Header{Keyed: true, Key: 7}, append([]byte{0x30, 0, 0x65, 0x58}, make([]byte, 30)...), []byte{0x20, 0, 0x65, 0x58, 0, 0, 0, 7}},
}

// numbers are edges of those that a Key and a Seq may be, and one whose bytes
// are all unlike.
var numbers = []uint32{0, 1, 1 << 31, 1<<32 - 1, 0x81C3E5F7}

// way is one of the eight ways in which the three flags may be, with a Key and
// a Seq where it has them.
func way(n int, key, seq uint32) Header {
	h := Header{Sum: n&1 != 0, Keyed: n&2 != 0, Seqed: n&4 != 0}
	if h.Keyed {
		h.Key = key
	}
	if h.Seqed {
		h.Seq = seq
	}
	return h
}

// told is what stands in the packet: what is ahead of the frame, and the frame.
func told(head, frame []byte) []byte { return slices.Concat(head, frame) }

// wantError asks for an error of this layer's own.
func wantError(t *testing.T, what string, err error, code api.Errno) {
	t.Helper()
	if !samples.IsWrong(err, code, "gre") {
		t.Fatalf("%s: got %v, want %v of gre", what, err, code)
	}
}

func wantPacket(t *testing.T, what string, h Header, frame, want []byte) {
	t.Helper()
	if b, err := Encap(h, frame); err != nil || !bytes.Equal(b, want) {
		t.Fatalf("%s: Encap of %+v: got %d bytes, %.50X, %v, want %d, %.50X", what, h, len(b), b, err, len(want), want)
	}
}

func wantNoPacket(t *testing.T, what string, h Header, frame []byte, code api.Errno) {
	t.Helper()
	b, err := Encap(h, frame)
	wantError(t, what+": Encap", err, code)
	if b != nil {
		t.Fatalf("%s: Encap of %+v: %d bytes beside the error", what, h, len(b))
	}
}

func wantFrame(t *testing.T, what string, b []byte, want Header, frame []byte) {
	t.Helper()
	if h, got, err := Decap(b); err != nil || h != want || !bytes.Equal(got, frame) {
		t.Fatalf("%s: Decap of %d bytes, %.50X: got %+v, %d bytes, %.40X, %v, want %+v, %d, %.40X", what, len(b), b, h, len(got), got, err, want, len(frame), frame)
	}
}

// wantNoFrame asks for an error that went by these layers, and for nothing
// beside it.
func wantNoFrame(t *testing.T, what string, b []byte, code api.Errno, layers ...string) {
	t.Helper()
	h, frame, err := Decap(b)
	if !samples.IsWrong(err, code, layers...) {
		t.Fatalf("%s: Decap of %d bytes, %.50X: got %v, want %v of %v", what, len(b), b, err, code, layers)
	}
	if h != (Header{}) || frame != nil {
		t.Fatalf("%s: Decap: %+v and %d bytes beside the error", what, h, len(frame))
	}
}

// wantRefused asks for an error of this layer's own.
func wantRefused(t *testing.T, what string, b []byte, code api.Errno) {
	t.Helper()
	wantNoFrame(t, what, b, code, "gre")
}

// wantCut asks for the error of octets, which bytes have that end ahead of the
// frame.
func wantCut(t *testing.T, what string, b []byte) {
	t.Helper()
	wantNoFrame(t, what, b, api.ErrShort, "gre", "octets")
}

func TestEncapAndDecapOfPackets(t *testing.T) {
	for _, c := range packets {
		wantPacket(t, c.name, c.h, c.frame, told(c.head, c.frame))
		wantFrame(t, c.name, told(c.head, c.frame), c.h, c.frame)
	}
}

func TestTheChaptersExample(t *testing.T) {
	frame := samples.Frame(14)
	b, err := Encap(Header{Keyed: true, Key: 5}, frame)
	if err != nil || !bytes.Equal(b, told([]byte{0x20, 0, 0x65, 0x58, 0, 0, 0, 5}, frame)) {
		t.Fatalf("got % X, %v", b, err)
	}
}

func TestWhatWasPutInComesOut(t *testing.T) {
	for n := range 8 {
		for _, key := range numbers {
			for _, seq := range numbers {
				for _, size := range []int{14, 15, 60, 8999, 9000} {
					h, frame := way(n, key, seq), samples.Frame(size)
					b, err := Encap(h, frame)
					if err != nil {
						t.Fatalf("%+v, %d bytes: %v", h, size, err)
					}
					wantFrame(t, "what was put in", b, h, frame)
				}
			}
		}
	}
}

func TestWhatCameOutIsPutIn(t *testing.T) {
	for _, c := range packets {
		b := told(c.head, c.frame)
		h, frame, err := Decap(b)
		if err != nil {
			t.Fatalf("%s: %v", c.name, err)
		}
		wantPacket(t, c.name, h, frame, b)
	}
}

// A frame in a packet in a packet comes out again as it was.
func TestAPacketInAPacket(t *testing.T) {
	frame := samples.Frame(101)
	b := frame
	for n := range 24 {
		b, _ = Encap(way(n%8, uint32(n), 9), b)
	}
	for n := 23; n >= 0; n-- {
		h, inside, err := Decap(b)
		if err != nil || h != way(n%8, uint32(n), 9) {
			t.Fatalf("%d: got %+v, %v", n, h, err)
		}
		b = inside
	}
	if !bytes.Equal(b, frame) {
		t.Fatalf("got %.40X", b)
	}
}

// What octets met is below what this layer tells; its own error is right below.
func TestTextsAndCodesOfErrors(t *testing.T) {
	decap := func(b []byte) error {
		_, _, err := Decap(b)
		return err
	}
	encap := func(size int) error {
		_, err := Encap(Header{}, make([]byte, size))
		return err
	}
	for _, c := range []struct {
		err  error
		text string
		code api.Errno
	}{
		{encap(13), "gre: error 2", api.ErrShort},
		{encap(9001), "gre: error 7", api.ErrBig},
		{decap(make([]byte, 3)), "gre: octets: error 2", api.ErrShort},
		{decap([]byte{0x40, 0, 0x65, 0x58}), "gre: error 3", api.ErrForm},
		{decap(make([]byte, 40)), "gre: error 12", api.ErrProto},
		{decap([]byte{0x20, 0, 0x65, 0x58, 0, 0, 0}), "gre: octets: error 2", api.ErrShort},
		{decap(told([]byte{0x80, 0, 0x65, 0x58}, make([]byte, 40))), "gre: error 4", api.ErrSum},
		{decap([]byte{0, 0, 0x65, 0x58}), "gre: error 2", api.ErrShort},
		{decap(told([]byte{0, 0, 0x65, 0x58}, make([]byte, 9001))), "gre: error 7", api.ErrBig},
	} {
		if c.err == nil || c.err.Error() != c.text || api.Code(c.err) != c.code || !errors.Is(c.err, c.code) {
			t.Fatalf("got %v, code %d, want %q, code %d", c.err, api.Code(c.err), c.text, c.code)
		}
		if w, ok := c.err.(*api.Wrong); !ok || w.Layer != "gre" {
			t.Fatalf("%v: gre is not the outermost", c.err)
		}
	}
}
