package udp

import (
	"bytes"
	"errors"
	"reflect"
	"strconv"
	"testing"

	"underpass/api"
)

const (
	one = api.IP(0x0A000001)
	two = api.IP(0x0A000002)
)

// datagrams are some between two addresses, each with its first eight bytes,
// whose sums were reckoned elsewhere.
var datagrams = []struct {
	name     string
	src, dst api.IP
	datagram Datagram
	head     []byte
}{
	{"the chapter's example", 1, 2,
		Datagram{1, 2, true, nil},
		[]byte{0, 1, 0, 2, 0, 8, 0, 0}},
	{"the chapter's example, with a sum", 1, 2,
		Datagram{1, 2, false, nil},
		[]byte{0, 1, 0, 2, 0, 8, 0xFF, 0xD8}},
	{"no bytes", one, two,
		Datagram{api.PortVXLAN, 53, false, nil},
		[]byte{0x12, 0xB5, 0, 0x35, 0, 8, 0xD8, 0xF1}},
	{"no two fields alike", 0xC0A80001, 0xC0A800C7,
		Datagram{0x1112, 0x2122, false, []byte{1, 2, 3}},
		[]byte{0x11, 0x12, 0x21, 0x22, 0, 0x0B, 0x47, 0x89}},
	{"no two fields alike, plain", 0xC0A80001, 0xC0A800C7,
		Datagram{0x1112, 0x2122, true, []byte{1, 2, 3}},
		[]byte{0x11, 0x12, 0x21, 0x22, 0, 0x0B, 0, 0}},
	{"one byte", 0x51525354, 0x61626364,
		Datagram{0x1112, 0x2122, false, []byte{1}},
		[]byte{0x11, 0x12, 0x21, 0x22, 0, 9, 0x63, 0x3B}},
	{"an odd number of bytes", 0x51525354, 0x61626364,
		Datagram{0x1112, 0x2122, false, []byte{1, 2, 3, 4, 5}},
		[]byte{0x11, 0x12, 0x21, 0x22, 0, 0x0D, 0x5B, 0x2D}},
	{"an even number of bytes", 0x51525354, 0x61626364,
		Datagram{0x1112, 0x2122, false, []byte{1, 2, 3, 4, 5, 6}},
		[]byte{0x11, 0x12, 0x21, 0x22, 0, 0x0E, 0x5B, 0x25}},
	{"noughts", 0, 0,
		Datagram{},
		[]byte{0, 0, 0, 0, 0, 8, 0xFF, 0xDE}},
	{"the highest numbers", 0xFFFFFFFF, 0xFFFFFFFF,
		Datagram{0xFFFF, 0xFFFF, false, []byte{0xFF, 0xFF}},
		[]byte{0xFF, 0xFF, 0xFF, 0xFF, 0, 0x0A, 0xFF, 0xDA}},
	{"the highest numbers, plain", 0xFFFFFFFF, 0xFFFFFFFF,
		Datagram{0xFFFF, 0xFFFF, true, []byte{0xFF, 0xFF}},
		[]byte{0xFF, 0xFF, 0xFF, 0xFF, 0, 0x0A, 0, 0}},
	{"a sum that would be 0, of no bytes", one, two,
		Datagram{0xEBD9, 2, false, nil},
		[]byte{0xEB, 0xD9, 0, 2, 0, 8, 0xFF, 0xFF}},
	{"a sum that would be 0, of an odd number of bytes", one, two,
		Datagram{0xDD1A, 2, false, []byte{0x5A, 0x5A, 0x5A, 0x5A, 0x5A}},
		[]byte{0xDD, 0x1A, 0, 2, 0, 0x0D, 0xFF, 0xFF}},
	{"as many bytes as there may be", one, two,
		Datagram{api.PortVXLAN, api.PortVXLAN, false, bytes.Repeat([]byte{0xA5}, 65507)},
		[]byte{0x12, 0xB5, 0x12, 0xB5, 0xFF, 0xEB, 0x03, 0x8B}},
}

// ordinary is a datagram of B with a sum, whose fields are all unlike.
func ordinary(b ...byte) Datagram { return Datagram{0x1112, 0x2122, false, b} }

// right is the sum of a datagram's bytes, and of what is ahead of it, where two
// bytes stand in place of the sum: what is behind a multiple of 65535, since
// the carries that come round make that of it. It is never 0, as none of the
// sums that are told.
func right(b []byte, src, dst api.IP) int {
	n := int(src>>16) + int(src&0xFFFF) + int(dst>>16) + int(dst&0xFFFF) + 17
	n += int(b[4])*256 + int(b[5])
	for i := range b {
		switch {
		case i == 6 || i == 7:
		case i%2 == 0:
			n += int(b[i]) * 256
		default:
			n += int(b[i])
		}
	}
	return 65535 - n%65535
}

// told is what a datagram's bytes are, however many they are.
func told(d Datagram, src, dst api.IP) []byte {
	size := 8 + len(d.B)
	b := []byte{byte(d.Src >> 8), byte(d.Src), byte(d.Dst >> 8), byte(d.Dst), byte(size >> 8), byte(size), 0, 0}
	b = append(b, d.B...)
	if !d.Plain {
		seal(b, src, dst)
	}
	return b
}

// seal lays into the bytes of a datagram the sum that all of them have.
func seal(b []byte, src, dst api.IP) {
	n := right(b, src, dst)
	b[6], b[7] = byte(n>>8), byte(n)
}

func same(d, e Datagram) bool {
	sameB := bytes.Equal(d.B, e.B)
	d.B, e.B = nil, nil
	return sameB && reflect.DeepEqual(d, e)
}

// wantError asks for an error of this layer's own, its text and its number.
func wantError(t *testing.T, what string, err error, code api.Errno) {
	t.Helper()
	if !reflect.DeepEqual(err, api.Wrap("udp", code)) {
		t.Fatalf("%s: got %v, want %v of udp", what, err, code)
	}
	if text := "udp: error " + strconv.Itoa(int(code)); err.Error() != text || api.Code(err) != code || !errors.Is(err, code) {
		t.Fatalf("%s: got %q, code %d, want %q", what, err, api.Code(err), text)
	}
}

func wantDatagram(t *testing.T, what string, b []byte, src, dst api.IP, want Datagram) {
	t.Helper()
	if d, err := Parse(b, src, dst); err != nil || !same(d, want) {
		t.Fatalf("%s: got %+v, %v, want %+v", what, d, err, want)
	}
}

// wantNone asks for an error of this layer's own and for nothing beside it.
func wantNone(t *testing.T, what string, b []byte, src, dst api.IP, code api.Errno) {
	t.Helper()
	d, err := Parse(b, src, dst)
	wantError(t, what, err, code)
	if !reflect.DeepEqual(d, Datagram{}) {
		t.Fatalf("%s: a datagram beside the error: %+v", what, d)
	}
}

// wantNoHead asks for the error of octets, which fewer than eight bytes have,
// and for nothing beside it.
func wantNoHead(t *testing.T, what string, b []byte) {
	t.Helper()
	d, err := Parse(b, one, two)
	if !reflect.DeepEqual(err, api.Wrap("udp", api.Wrap("octets", api.ErrShort))) || err.Error() != "udp: octets: error 2" {
		t.Fatalf("%s: got %v", what, err)
	}
	if api.Code(err) != api.ErrShort || !errors.Is(err, api.ErrShort) {
		t.Fatalf("%s: got code %d", what, api.Code(err))
	}
	if !reflect.DeepEqual(d, Datagram{}) {
		t.Fatalf("%s: a datagram beside the error: %+v", what, d)
	}
}

func wantBytes(t *testing.T, what string, d Datagram, src, dst api.IP, want []byte) {
	t.Helper()
	if b, err := d.Bytes(src, dst); err != nil || !bytes.Equal(b, want) {
		t.Fatalf("%s: got %d bytes, %.40X, %v, want %.40X", what, len(b), b, err, want)
	}
}

func TestParseAndBytesOfDatagrams(t *testing.T) {
	for _, c := range datagrams {
		b := append(bytes.Clone(c.head), c.datagram.B...)
		wantBytes(t, c.name, c.datagram, c.src, c.dst, b)
		wantDatagram(t, c.name, b, c.src, c.dst, c.datagram)
	}
}

func TestTheChaptersExample(t *testing.T) {
	b, err := Datagram{Src: 1, Dst: 2, Plain: true}.Bytes(one, two)
	want := []byte{0x00, 0x01, 0x00, 0x02, 0x00, 0x08, 0x00, 0x00}
	if err != nil || !bytes.Equal(b, want) {
		t.Fatalf("got % X, %v", b, err)
	}
	d, err := Parse(want, one, two)
	if err != nil || d.Src != 1 || d.Dst != 2 || !d.Plain || len(d.B) != 0 {
		t.Fatalf("got %+v, %v", d, err)
	}
}

// each is a call for many datagrams: one with each number that a field can
// have, and some of each of the sizes at which something begins or ends.
func each(call func(d Datagram, src, dst api.IP)) {
	for n := range 1 << 16 {
		src, dst := api.IP(n)<<16|api.IP(n)^0xFFFF, api.IP(n)*0x9E3779B1
		d := Datagram{uint16(n), uint16(n*3 + 1), n%5 == 0, []byte{byte(n), byte(n >> 8), 3}}
		d.B = d.B[:n%4%3+n%2]
		call(d, src, dst)
	}
	for _, n := range []int{0, 1, 2, 3, 7, 8, 9, 246, 247, 248, 255, 256, 1472, 8980, 65505, 65506, 65507} {
		for _, x := range []byte{0, 1, 0xA5, 0xFF} {
			for _, plain := range []bool{false, true} {
				d := ordinary(bytes.Repeat([]byte{x}, n)...)
				d.Plain = plain
				call(d, one, two)
			}
		}
	}
}

func TestWhatIsWrittenIsReadAgain(t *testing.T) {
	each(func(d Datagram, src, dst api.IP) {
		b, err := d.Bytes(src, dst)
		if err != nil {
			t.Fatalf("%+v: %v", d, err)
		}
		wantDatagram(t, "what was written", b, src, dst, d)
		wantDatagram(t, "what was written, with bytes behind", append(b, 0xEE, 0, 0x45), src, dst, d)
	})
}

func TestWhatIsReadIsWrittenAgain(t *testing.T) {
	each(func(d Datagram, src, dst api.IP) {
		b := told(d, src, dst)
		got, err := Parse(b, src, dst)
		if err != nil {
			t.Fatalf("% X: %v", b, err)
		}
		wantBytes(t, "what was read", got, src, dst, b)
	})
}

func TestParseKeepsNothingThatItWasHanded(t *testing.T) {
	for _, c := range datagrams {
		b := append(told(c.datagram, c.src, c.dst), 1, 2, 3)
		d, err := Parse(b, c.src, c.dst)
		if !bytes.Equal(b, append(told(c.datagram, c.src, c.dst), 1, 2, 3)) {
			t.Fatalf("%s: Parse has changed what it was handed", c.name)
		}
		for i := range b {
			b[i] = 0xEE
		}
		if err != nil || !same(d, c.datagram) {
			t.Fatalf("%s: got %+v, %v once the bytes were written over", c.name, d, err)
		}
		b[4], b[5] = 0, 7
		wantNone(t, "the bytes that were written over", b, c.src, c.dst, api.ErrForm)
	}
}

func TestParsedDatagramsAreTheCallers(t *testing.T) {
	for _, c := range datagrams {
		b := append(told(c.datagram, c.src, c.dst), 1, 2, 3)
		first, _ := Parse(b, c.src, c.dst)
		second, err := Parse(b, c.src, c.dst)
		clear(append(first.B, 9, 9, 9))
		clear(first.B)
		if err != nil || !same(second, c.datagram) {
			t.Fatalf("%s: two datagrams share bytes: %+v, %v", c.name, second, err)
		}
		if !bytes.Equal(b, append(told(c.datagram, c.src, c.dst), 1, 2, 3)) {
			t.Fatalf("%s: a datagram shares what Parse was handed: % X", c.name, b)
		}
	}
}

func TestBytesKeepNothingOfTheDatagram(t *testing.T) {
	for _, c := range datagrams {
		d := c.datagram
		room := append(bytes.Clone(d.B), 0xAA, 0xAA)
		d.B = room[:len(d.B)]
		first, _ := d.Bytes(c.src, c.dst)
		second, err := d.Bytes(c.src, c.dst)
		clear(append(first, 9, 9))
		clear(first)
		if !same(d, c.datagram) || !bytes.Equal(room[len(d.B):], []byte{0xAA, 0xAA}) {
			t.Fatalf("%s: bytes share the datagram's: %+v", c.name, d)
		}
		clear(room)
		if err != nil || !bytes.Equal(second, told(c.datagram, c.src, c.dst)) {
			t.Fatalf("%s: got % X, %v once the datagram was written over", c.name, second, err)
		}
		wantBytes(t, c.name, c.datagram, c.src, c.dst, told(c.datagram, c.src, c.dst))
	}
}

// What is refused stays as it was, too.
func TestCallsThatFailLeaveWhatTheyWereHanded(t *testing.T) {
	for _, f := range faults {
		b := f.make(told(ordinary(1, 2, 3, 4, 5, 6, 7), one, two))
		want := bytes.Clone(b)
		if _, err := Parse(b, one, two); err == nil || !bytes.Equal(b, want) {
			t.Fatalf("%s: % X became % X, %v", f.name, want, b, err)
		}
	}
	d := ordinary(bytes.Repeat([]byte{0x33}, 65508)...)
	if _, err := d.Bytes(one, two); err == nil || !same(d, ordinary(bytes.Repeat([]byte{0x33}, 65508)...)) {
		t.Fatalf("a datagram that is too large: %v", err)
	}
}
