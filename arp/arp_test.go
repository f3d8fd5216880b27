package arp

import (
	"bytes"
	"errors"
	"reflect"
	"testing"

	"underpass/api"
)

// The errors that Parse may tell, with all layers that each has gone by.
var (
	wrongShort = api.Wrap("arp", api.Wrap("octets", api.ErrShort))
	wrongProto = api.Wrap("arp", api.ErrProto)
	wrongForm  = api.Wrap("arp", api.ErrForm)
)

var packets = []struct {
	name   string
	packet Packet
	bytes  []byte
}{
	{"the chapter's example",
		Packet{Op: Request, SHA: api.MAC{2, 0, 0, 0, 0, 1}, SPA: 0x0A000001, TPA: 0x0A000002},
		[]byte{0, 1, 8, 0, 6, 4, 0, 1, 2, 0, 0, 0, 0, 1, 10, 0, 0, 1, 0, 0, 0, 0, 0, 0, 10, 0, 0, 2}},
	{"a reply to it",
		Packet{Reply, api.MAC{2, 0, 0, 0, 0, 2}, 0x0A000002, api.MAC{2, 0, 0, 0, 0, 1}, 0x0A000001},
		[]byte{0, 1, 8, 0, 6, 4, 0, 2, 2, 0, 0, 0, 0, 2, 10, 0, 0, 2, 2, 0, 0, 0, 0, 1, 10, 0, 0, 1}},
	{"no two bytes alike",
		Packet{Request, api.MAC{0x11, 0x12, 0x13, 0x14, 0x15, 0x16}, 0x21222324, api.MAC{0x31, 0x32, 0x33, 0x34, 0x35, 0x36}, 0x41424344},
		[]byte{0, 1, 8, 0, 6, 4, 0, 1, 0x11, 0x12, 0x13, 0x14, 0x15, 0x16, 0x21, 0x22, 0x23, 0x24, 0x31, 0x32, 0x33, 0x34, 0x35, 0x36, 0x41, 0x42, 0x43, 0x44}},
	{"a request of noughts",
		Packet{Op: Request},
		[]byte{0, 1, 8, 0, 6, 4, 0, 1, 0, 0, 0, 0, 0, 0, 0, 0, 0, 0, 0, 0, 0, 0, 0, 0, 0, 0, 0, 0}},
	{"a reply of the highest numbers",
		Packet{Reply, api.All, 0xFFFFFFFF, api.All, 0xFFFFFFFF},
		append([]byte{0, 1, 8, 0, 6, 4, 0, 2}, bytes.Repeat([]byte{0xFF}, 20)...)},
	{"addresses that look like the beginning",
		Packet{Reply, api.MAC{0, 1, 8, 0, 6, 4}, 0x00010800, api.MAC{0, 1, 8, 0, 6, 4}, 0x06040001},
		[]byte{0, 1, 8, 0, 6, 4, 0, 2, 0, 1, 8, 0, 6, 4, 0, 1, 8, 0, 0, 1, 8, 0, 6, 4, 6, 4, 0, 1}},
}

// behind are rows of bytes that stand behind a packet's own, as a frame's
// filling does.
var behind = [][]byte{{}, {0}, {0xFF}, make([]byte, 18), bytes.Repeat([]byte{0, 1, 8, 0, 6, 4, 0, 3}, 7), bytes.Repeat([]byte{0xEE}, 9000)}

// ordinary is a packet's bytes, of which a test makes wrong ones.
func ordinary() []byte { return bytes.Clone(packets[2].bytes) }

// withOp is those with another Op.
func withOp(op uint16) []byte {
	b := ordinary()
	b[6], b[7] = byte(op>>8), byte(op)
	return b
}

func wantPacket(t *testing.T, what string, b []byte, want Packet) {
	t.Helper()
	if p, err := Parse(b); err != nil || p != want {
		t.Errorf("%s: got %+v, %v, want %+v", what, p, err, want)
	}
}

// wantWrong asks for an error, its number and its text, and for nothing beside
// it.
func wantWrong(t *testing.T, what string, b []byte, want error, text string, code api.Errno) {
	t.Helper()
	p, err := Parse(b)
	if !reflect.DeepEqual(err, want) {
		t.Fatalf("%s: got %v, want %v", what, err, want)
	}
	if err.Error() != text || api.Code(err) != code || !errors.Is(err, code) {
		t.Fatalf("%s: got %q, code %d, want %q, code %d", what, err, api.Code(err), text, code)
	}
	if p != (Packet{}) {
		t.Fatalf("%s: a packet beside the error: %+v", what, p)
	}
}

func wantShort(t *testing.T, what string, b []byte) {
	t.Helper()
	wantWrong(t, what, b, wrongShort, "arp: octets: error 2", api.ErrShort)
}

func wantOther(t *testing.T, what string, b []byte) {
	t.Helper()
	wantWrong(t, what, b, wrongProto, "arp: error 12", api.ErrProto)
}

func wantFormless(t *testing.T, what string, b []byte) {
	t.Helper()
	wantWrong(t, what, b, wrongForm, "arp: error 3", api.ErrForm)
}

func TestParseAndBytesOfPackets(t *testing.T) {
	for _, c := range packets {
		wantPacket(t, c.name, c.bytes, c.packet)
		if b := c.packet.Bytes(); !bytes.Equal(b, c.bytes) {
			t.Errorf("%s: Bytes: got % X, want % X", c.name, b, c.bytes)
		}
	}
}

func TestTheChaptersExample(t *testing.T) {
	p := Packet{Op: Request, SHA: api.MAC{2, 0, 0, 0, 0, 1}, SPA: 0x0A000001, TPA: 0x0A000002}
	b := p.Bytes()
	if !bytes.HasSuffix(b, []byte{0, 0, 0, 0, 0, 0, 0x0A, 0, 0, 2}) || len(b) != 28 {
		t.Fatalf("got % X", b)
	}
}

func TestNumbersOfWhatAPacketDoes(t *testing.T) {
	if Request != 1 || Reply != 2 {
		t.Fatalf("got %d and %d", Request, Reply)
	}
}

func TestParseOfBytesThatEndTooEarly(t *testing.T) {
	for _, c := range packets {
		for n := range 28 {
			wantShort(t, c.name, bytes.Clone(c.bytes[:n]))
		}
	}
	wantShort(t, "nil", nil)
	wantShort(t, "no bytes", []byte{})
}

// What stands behind the end of a slice, in its room, is none of its bytes.
func TestParseLooksAtNoBytesBehindTheEnd(t *testing.T) {
	room := append(ordinary(), 0, 0)
	for n := range 28 {
		wantShort(t, "bytes with more behind", room[:n])
	}
	wantPacket(t, "28 bytes with more behind", room[:28], packets[2].packet)
}

func TestParseOfAnotherBeginning(t *testing.T) {
	for _, c := range packets {
		for i := range 6 {
			for n := range 256 {
				b := bytes.Clone(c.bytes)
				if b[i] == byte(n) {
					continue
				}
				b[i] = byte(n)
				wantOther(t, c.name+" with another byte", b)
			}
		}
	}
	b := ordinary()
	copy(b, []byte{1, 0, 0, 8, 4, 6})
	wantOther(t, "each of the six another one", b)
	wantOther(t, "28 noughts", make([]byte, 28))
	wantOther(t, "a packet that begins one byte later", append([]byte{0}, ordinary()...))
}

func TestParseOfEachOp(t *testing.T) {
	for n := range 1 << 16 {
		b := withOp(uint16(n))
		if n != 1 && n != 2 {
			wantFormless(t, "an Op that is none", b)
			continue
		}
		want := packets[2].packet
		want.Op = uint16(n)
		wantPacket(t, "an Op", b, want)
	}
}

func TestBytesOfEachOp(t *testing.T) {
	p := packets[2].packet
	for n := range 1 << 16 {
		p.Op = uint16(n)
		if got, want := p.Bytes(), withOp(p.Op); !bytes.Equal(got, want) {
			t.Fatalf("Op %d: got % X, want % X", n, got, want)
		}
	}
}

// A zero Packet has an Op that Parse does not take, but it has bytes.
func TestBytesOfTheZeroPacket(t *testing.T) {
	b := Packet{}.Bytes()
	if want := append([]byte{0, 1, 8, 0, 6, 4}, make([]byte, 22)...); !bytes.Equal(b, want) {
		t.Fatalf("got % X, want % X", b, want)
	}
	wantFormless(t, "the zero packet", b)
}

func TestParseOfBytesWithOthersBehind(t *testing.T) {
	for _, more := range behind {
		for _, c := range packets {
			wantPacket(t, c.name, append(bytes.Clone(c.bytes), more...), c.packet)
		}
		wantFormless(t, "an Op of 3", append(withOp(3), more...))
		other := append(ordinary(), more...)
		other[5] = 6
		wantOther(t, "another beginning", other)
	}
}

func TestParseTellsShortBytesFirst(t *testing.T) {
	wrong := withOp(3)
	for i := range 6 {
		b := bytes.Clone(wrong)
		b[i] ^= 0xFF
		for n := range 28 {
			wantShort(t, "fewer than 28 bytes with another beginning", b[:n:n])
		}
		wantOther(t, "28 bytes with another beginning and Op", b)
	}
	for n := range 28 {
		wantShort(t, "fewer than 28 bytes with another Op", wrong[:n:n])
		wantShort(t, "fewer than 28 noughts", make([]byte, n))
		wantShort(t, "fewer than 28 of FF", bytes.Repeat([]byte{0xFF}, n))
	}
	wantFormless(t, "28 bytes with another Op", wrong)
}

func TestParseTellsAnotherBeginningAheadOfTheOp(t *testing.T) {
	for _, op := range []uint16{0, 1, 2, 3, 0x0100, 0x0200, 0x0101, 0x0102, 0x0201, 65535} {
		for i := range 6 {
			b := withOp(op)
			b[i]++
			wantOther(t, "another beginning with any Op", b)
			wantOther(t, "another beginning with any Op, and bytes behind", append(b, 1, 2, 3))
		}
	}
}

func TestWhatIsWrittenIsReadAgain(t *testing.T) {
	for _, c := range packets {
		for n := range 256 {
			for i := range 6 {
				p := c.packet
				p.SHA[i], p.THA[5-i] = byte(n), byte(n+1)
				wantPacket(t, "what was written", p.Bytes(), p)
			}
			for shift := 0; shift < 32; shift += 8 {
				p := c.packet
				p.SPA ^= api.IP(n) << shift
				p.TPA ^= api.IP(255-n) << shift
				wantPacket(t, "what was written", p.Bytes(), p)
			}
		}
	}
}

func TestWhatIsReadIsWrittenAgain(t *testing.T) {
	for _, more := range behind {
		for i := 8; i < 28; i++ {
			for n := range 256 {
				b := append(ordinary(), more...)
				b[i] = byte(n)
				p, err := Parse(b)
				if err != nil {
					t.Fatalf("% X: %v", b, err)
				}
				if got := p.Bytes(); !bytes.Equal(got, b[:28]) {
					t.Fatalf("% X came back as % X", b, got)
				}
			}
		}
	}
}

func TestParseLeavesWhatItWasHanded(t *testing.T) {
	other := ordinary()
	other[0] = 1
	for _, b := range [][]byte{ordinary(), withOp(3), other, ordinary()[:27], append(ordinary(), 1, 2, 3)} {
		want := bytes.Clone(b[:cap(b)])
		_, _ = Parse(b)
		if !bytes.Equal(b[:cap(b)], want) {
			t.Fatalf("% X became % X", want, b[:cap(b)])
		}
	}
}

func TestParseKeepsNothingThatItWasHanded(t *testing.T) {
	for _, c := range packets {
		b := bytes.Clone(c.bytes)
		p, err := Parse(b)
		for i := range b {
			b[i] = 0xEE
		}
		if err != nil || p != c.packet {
			t.Errorf("%s: got %+v, %v once the bytes were written over", c.name, p, err)
		}
		wantOther(t, "the bytes that were written over", b)
	}
}

func TestBytesAreTheCallers(t *testing.T) {
	for _, c := range packets {
		one, two := c.packet.Bytes(), c.packet.Bytes()
		clear(append(one, 9, 9))
		clear(one)
		if !bytes.Equal(two, c.bytes) {
			t.Errorf("%s: got % X once others were written over, want % X", c.name, two, c.bytes)
		}
		if again := c.packet.Bytes(); !bytes.Equal(again, c.bytes) {
			t.Errorf("%s: got % X behind that, want % X", c.name, again, c.bytes)
		}
		wantPacket(t, c.name, c.bytes, c.packet)
	}
}

func FuzzParse(f *testing.F) {
	for _, c := range packets {
		f.Add(c.bytes)
		f.Add(c.bytes[:27])
		f.Add(append(bytes.Clone(c.bytes), 1, 2, 3))
	}
	f.Fuzz(func(t *testing.T, b []byte) {
		p, err := Parse(b)
		if err != nil {
			if p != (Packet{}) {
				t.Fatalf("% X: %+v beside %v", b, p, err)
			}
			return
		}
		if got := p.Bytes(); !bytes.Equal(got, b[:28]) {
			t.Fatalf("% X came back as % X", b, got)
		}
	})
}
