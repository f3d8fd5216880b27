package ipv4

import (
	"bytes"
	"errors"
	"reflect"
	"strconv"
	"testing"

	"underpass/api"
)

const (
	one = api.IP(0x0A000001)
	two = api.IP(0x0A000002)
)

// packets are some that are right, each with its first twenty bytes, which were
// reckoned elsewhere.
var packets = []struct {
	name   string
	packet Packet
	head   []byte
}{
	{"the chapter's example",
		Packet{ID: 1, TTL: 64, Proto: api.UDP, Src: one, Dst: two},
		[]byte{0x45, 0, 0, 0x14, 0, 1, 0, 0, 0x40, 0x11, 0x66, 0xD6, 10, 0, 0, 1, 10, 0, 0, 2}},
	{"a well-known head",
		Packet{DF: true, TTL: 64, Proto: api.UDP, Src: 0xC0A80001, Dst: 0xC0A800C7, B: bytes.Repeat([]byte{0x5A}, 95)},
		[]byte{0x45, 0, 0, 0x73, 0, 0, 0x40, 0, 0x40, 0x11, 0xB8, 0x61, 0xC0, 0xA8, 0, 1, 0xC0, 0xA8, 0, 0xC7}},
	{"no two fields alike",
		Packet{0x11, 0x2122, false, false, 0, 0x31, 0x41, 0x51525354, 0x61626364, []byte{1, 2, 3}},
		[]byte{0x45, 0x11, 0, 0x17, 0x21, 0x22, 0, 0, 0x31, 0x41, 0xFF, 0x06, 0x51, 0x52, 0x53, 0x54, 0x61, 0x62, 0x63, 0x64}},
	{"the zero packet",
		Packet{},
		[]byte{0x45, 0, 0, 0x14, 0, 0, 0, 0, 0, 0, 0xBA, 0xEB, 0, 0, 0, 0, 0, 0, 0, 0}},
	{"the highest numbers",
		Packet{0xFF, 0xFFFF, true, false, 0, 0xFF, 0xFF, 0xFFFFFFFF, 0xFFFFFFFF, nil},
		[]byte{0x45, 0xFF, 0, 0x14, 0xFF, 0xFF, 0x40, 0, 0xFF, 0xFF, 0x79, 0xEC, 0xFF, 0xFF, 0xFF, 0xFF, 0xFF, 0xFF, 0xFF, 0xFF}},
	{"a first part",
		Packet{ID: 7, MF: true, TTL: 64, Proto: api.ICMP, Src: one, Dst: two, B: []byte{1, 2, 3, 4, 5, 6, 7, 8}},
		[]byte{0x45, 0, 0, 0x1C, 0, 7, 0x20, 0, 0x40, 1, 0x46, 0xD8, 10, 0, 0, 1, 10, 0, 0, 2}},
	{"a second part, with both flags",
		Packet{ID: 7, DF: true, MF: true, Off: 8, TTL: 64, Proto: api.ICMP, Src: one, Dst: two, B: []byte{1, 2, 3, 4, 5, 6, 7, 8}},
		[]byte{0x45, 0, 0, 0x1C, 0, 7, 0x60, 1, 0x40, 1, 0x06, 0xD7, 10, 0, 0, 1, 10, 0, 0, 2}},
	{"a part whose Off has one bit, in the higher byte",
		Packet{ID: 7, Off: 2048, TTL: 64, Proto: api.ICMP, Src: one, Dst: two, B: []byte{9}},
		[]byte{0x45, 0, 0, 0x15, 0, 7, 1, 0, 0x40, 1, 0x65, 0xDF, 10, 0, 0, 1, 10, 0, 0, 2}},
	{"a last part that ends as late as may be",
		Packet{ID: 7, Off: 65512, TTL: 64, Proto: api.ICMP, Src: one, Dst: two, B: []byte{7, 8, 9}},
		[]byte{0x45, 0, 0, 0x17, 0, 7, 0x1F, 0xFD, 0x40, 1, 0x46, 0xE0, 10, 0, 0, 1, 10, 0, 0, 2}},
	{"a part ahead of others that ends as late as may be",
		Packet{ID: 7, MF: true, Off: 65504, TTL: 64, Proto: api.ICMP, Src: one, Dst: two, B: []byte{1, 2, 3, 4, 5, 6, 7, 8}},
		[]byte{0x45, 0, 0, 0x1C, 0, 7, 0x3F, 0xFC, 0x40, 1, 0x26, 0xDC, 10, 0, 0, 1, 10, 0, 0, 2}},
	{"a sum of 0",
		Packet{ID: 0x66D7, TTL: 64, Proto: api.UDP, Src: one, Dst: two},
		[]byte{0x45, 0, 0, 0x14, 0x66, 0xD7, 0, 0, 0x40, 0x11, 0, 0, 10, 0, 0, 1, 10, 0, 0, 2}},
}

// ordinary is a packet of B, whose fields are all unlike.
func ordinary(b ...byte) Packet {
	p := packets[2].packet
	p.B = b
	return p
}

// told is what a packet's bytes are, whether it is right or not.
func told(p Packet) []byte {
	size, off := 20+len(p.B), p.Off/8
	flags := byte(0)
	if p.DF {
		flags += 0x40
	}
	if p.MF {
		flags += 0x20
	}
	b := []byte{0x45, p.TOS, byte(size / 256), byte(size), byte(p.ID >> 8), byte(p.ID),
		flags | byte(off/256), byte(off), p.TTL, p.Proto, 0, 0,
		byte(p.Src >> 24), byte(p.Src >> 16), byte(p.Src >> 8), byte(p.Src),
		byte(p.Dst >> 24), byte(p.Dst >> 16), byte(p.Dst >> 8), byte(p.Dst)}
	seal(b)
	return append(b, p.B...)
}

// seal lays into a head the sum that it has then: what is behind a multiple of
// 65535, since the carries that come round make that of it.
func seal(b []byte) {
	b[10], b[11] = 0, 0
	n := 0
	for i := 0; i < 20; i += 2 {
		n += int(b[i])*256 + int(b[i+1])
	}
	left := 65534 - (n-1)%65535
	b[10], b[11] = byte(left/256), byte(left)
}

// other is a packet's bytes with others at a place, and their sum.
func other(p Packet, at int, others ...byte) []byte {
	b := told(p)
	copy(b[at:], others)
	seal(b)
	return b
}

func same(p, q Packet) bool {
	sameB := bytes.Equal(p.B, q.B)
	p.B, q.B = nil, nil
	return sameB && reflect.DeepEqual(p, q)
}

// wantError asks for an error of this layer's own, its text and its number.
func wantError(t *testing.T, what string, err error, code api.Errno) {
	t.Helper()
	if !reflect.DeepEqual(err, api.Wrap("ipv4", code)) {
		t.Fatalf("%s: got %v, want %v of ipv4", what, err, code)
	}
	if text := "ipv4: error " + strconv.Itoa(int(code)); err.Error() != text || api.Code(err) != code || !errors.Is(err, code) {
		t.Fatalf("%s: got %q, code %d, want %q", what, err, api.Code(err), text)
	}
}

func wantPacket(t *testing.T, what string, b []byte, want Packet) {
	t.Helper()
	if p, err := Parse(b); err != nil || !same(p, want) {
		t.Fatalf("%s: got %+v, %v, want %+v", what, p, err, want)
	}
}

// wantNoPacket asks for an error of this layer's own and for nothing beside it.
func wantNoPacket(t *testing.T, what string, b []byte, code api.Errno) {
	t.Helper()
	p, err := Parse(b)
	wantError(t, what, err, code)
	if !reflect.DeepEqual(p, Packet{}) {
		t.Fatalf("%s: a packet beside the error: %+v", what, p)
	}
}

// wantNoHead asks for the error of octets, which fewer than twenty bytes have,
// and for nothing beside it.
func wantNoHead(t *testing.T, what string, b []byte) {
	t.Helper()
	p, err := Parse(b)
	if !reflect.DeepEqual(err, api.Wrap("ipv4", api.Wrap("octets", api.ErrShort))) || err.Error() != "ipv4: octets: error 2" {
		t.Fatalf("%s: got %v", what, err)
	}
	if !reflect.DeepEqual(p, Packet{}) {
		t.Fatalf("%s: a packet beside the error: %+v", what, p)
	}
}

func wantBytes(t *testing.T, what string, p Packet, want []byte) {
	t.Helper()
	if b, err := p.Bytes(); err != nil || !bytes.Equal(b, want) {
		t.Fatalf("%s: got % X, %v, want % X", what, b, err, want)
	}
}

func TestParseAndBytesOfPackets(t *testing.T) {
	for _, c := range packets {
		b := append(bytes.Clone(c.head), c.packet.B...)
		wantBytes(t, c.name, c.packet, b)
		wantPacket(t, c.name, b, c.packet)
	}
}

func TestTheChaptersExample(t *testing.T) {
	p := Packet{ID: 1, TTL: 64, Proto: api.UDP, Src: 0x0A000001, Dst: 0x0A000002}
	b, err := p.Bytes()
	want := []byte{0x45, 0x00, 0x00, 0x14, 0x00, 0x01, 0x00, 0x00, 0x40, 0x11}
	if err != nil || len(b) != 20 || !bytes.HasPrefix(b, want) {
		t.Fatalf("got % X, %v", b, err)
	}
}

// each is a call for many packets that are right: one with each number that a
// field can have.
func each(call func(p Packet)) {
	for n := range 1 << 16 {
		p := ordinary(1, 2, 3)
		p.ID, p.TOS, p.TTL, p.Proto = uint16(n), byte(n), byte(n>>8), byte(n^n>>8)
		p.DF = n%3 == 0
		p.Src, p.Dst = api.IP(n)<<16|api.IP(n)^0xFFFF, api.IP(n)*0x9E3779B1
		call(p)
	}
	for n := range 65512/8 + 1 {
		for flags := range 4 {
			p := ordinary(1, 2, 3)
			p.Off, p.DF, p.MF = n*8, flags&1 != 0, flags&2 != 0
			if p.MF {
				p.B = []byte{1, 2, 3, 4, 5, 6, 7, 8}
			}
			if 20+p.Off+len(p.B) <= 65535 {
				call(p)
			}
		}
	}
	for _, n := range []int{0, 1, 2, 7, 8, 9, 235, 236, 237, 255, 256, 1480, 8980, 65514, 65515} {
		call(ordinary(bytes.Repeat([]byte{0xA5}, n)...))
	}
}

func TestWhatIsWrittenIsReadAgain(t *testing.T) {
	each(func(p Packet) {
		b, err := p.Bytes()
		if err != nil {
			t.Fatalf("%+v: %v", p, err)
		}
		wantPacket(t, "what was written", b, p)
		wantPacket(t, "what was written, with bytes behind", append(b, 0xEE, 0, 0x45), p)
	})
}

func TestWhatIsReadIsWrittenAgain(t *testing.T) {
	each(func(p Packet) {
		b := told(p)
		got, err := Parse(b)
		if err != nil {
			t.Fatalf("% X: %v", b, err)
		}
		wantBytes(t, "what was read", got, b)
	})
}

func TestParseKeepsNothingThatItWasHanded(t *testing.T) {
	for _, c := range packets {
		b := append(told(c.packet), 1, 2, 3)
		p, err := Parse(b)
		if !bytes.Equal(b, append(told(c.packet), 1, 2, 3)) {
			t.Fatalf("%s: Parse has changed what it was handed", c.name)
		}
		for i := range b {
			b[i] = 0xEE
		}
		if err != nil || !same(p, c.packet) {
			t.Fatalf("%s: got %+v, %v once the bytes were written over", c.name, p, err)
		}
		wantNoPacket(t, "the bytes that were written over", b, api.ErrProto)
	}
}

func TestParsedPacketsAreTheCallers(t *testing.T) {
	for _, c := range packets {
		b := append(told(c.packet), 1, 2, 3)
		first, _ := Parse(b)
		second, err := Parse(b)
		clear(append(first.B, 9, 9, 9))
		clear(first.B)
		if err != nil || !same(second, c.packet) {
			t.Fatalf("%s: two packets share bytes: %+v, %v", c.name, second, err)
		}
		if !bytes.Equal(b, append(told(c.packet), 1, 2, 3)) {
			t.Fatalf("%s: a packet shares what Parse was handed: % X", c.name, b)
		}
	}
}

func TestBytesKeepNothingOfThePacket(t *testing.T) {
	for _, c := range packets {
		p := c.packet
		room := append(bytes.Clone(p.B), 0xAA, 0xAA)
		p.B = room[:len(p.B)]
		first, _ := p.Bytes()
		second, err := p.Bytes()
		clear(append(first, 9, 9))
		clear(first)
		if !same(p, c.packet) || !bytes.Equal(room[len(p.B):], []byte{0xAA, 0xAA}) {
			t.Fatalf("%s: bytes share the packet's: %+v", c.name, p)
		}
		clear(room)
		if err != nil || !bytes.Equal(second, told(c.packet)) {
			t.Fatalf("%s: got % X, %v once the packet was written over", c.name, second, err)
		}
		wantBytes(t, c.name, c.packet, told(c.packet))
	}
}

// What is refused stays as it was, too.
func TestCallsThatFailLeaveWhatTheyWereHanded(t *testing.T) {
	for _, f := range faults {
		b := f.make(told(ordinary(1, 2, 3, 4, 5, 6, 7)))
		want := bytes.Clone(b)
		if _, err := Parse(b); err == nil || !bytes.Equal(b, want) {
			t.Fatalf("%s: % X became % X, %v", f.name, want, b, err)
		}
	}
	for _, off := range []int{-8, 3, 65536} {
		p := ordinary(1, 2, 3)
		p.Off = off
		if _, err := p.Bytes(); err == nil || Right(p) == nil || !bytes.Equal(p.B, []byte{1, 2, 3}) {
			t.Fatalf("Off %d: %v, %v", off, p.B, err)
		}
	}
}
