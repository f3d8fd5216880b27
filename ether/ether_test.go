package ether

import (
	"bytes"
	"errors"
	"math"
	"reflect"
	"testing"

	"underpass/api"
)

var (
	dst = api.MAC{0x0A, 0x0B, 0x0C, 0x0D, 0x0E, 0x0F}
	src = api.MAC{0x12, 0x13, 0x14, 0x15, 0x16, 0x17}
)

// row lays parts one behind the other.
func row(parts ...[]byte) []byte { return bytes.Join(parts, nil) }

// noise is bytes that are the same in each run and look like no row.
func noise(n int, seed uint32) []byte {
	b := make([]byte, n)
	for i := range b {
		seed = seed*1664525 + 1013904223
		b[i] = byte(seed >> 24)
	}
	return b
}

// same holds bytes that are nil and bytes that are empty to be the same.
func same(a, b Frame) bool {
	return a.Dst == b.Dst && a.Src == b.Src && a.VLAN == b.VLAN && a.Type == b.Type && bytes.Equal(a.B, b.B)
}

// wantLayers asks for the layers that have wrapped an error, the outermost
// first, and for the number that they have wrapped.
func wantLayers(t *testing.T, what string, err error, code api.Errno, layers ...string) {
	t.Helper()
	if err == nil {
		t.Fatalf("%s: no error, want %v", what, code)
	}
	text, at := "", err
	for _, name := range layers {
		w, ok := at.(*api.Wrong)
		if !ok || w.Layer != name {
			t.Fatalf("%s: got %v, want %v in %q", what, err, code, layers)
		}
		text, at = text+name+": ", w.Err
	}
	if at != error(code) || err.Error() != text+code.Error() || api.Code(err) != code || !errors.Is(err, code) {
		t.Fatalf("%s: got %v, want %v in %q", what, err, code, layers)
	}
}

// wantNoFrame asks for an error and for nothing beside it.
func wantNoFrame(t *testing.T, what string, b []byte, code api.Errno, layers ...string) {
	t.Helper()
	f, err := Parse(b)
	wantLayers(t, what, err, code, layers...)
	if !reflect.DeepEqual(f, Frame{}) {
		t.Fatalf("%s: a frame beside the error: %+v", what, f)
	}
}

// wantNoBytes asks for an error and for nothing beside it.
func wantNoBytes(t *testing.T, what string, f Frame, code api.Errno) {
	t.Helper()
	b, err := f.Bytes()
	wantLayers(t, what, err, code, "ether")
	if len(b) != 0 {
		t.Fatalf("%s: %d bytes beside the error", what, len(b))
	}
}

var frames = []struct {
	name  string
	frame Frame
	bytes []byte
}{
	{"the chapter's example",
		Frame{Dst: api.All, Src: api.MAC{2, 2, 2, 2, 2, 2}, VLAN: -1, Type: api.TypeARP},
		row(bytes.Repeat([]byte{0xFF}, 6), bytes.Repeat([]byte{2}, 6), []byte{8, 6})},
	{"no tag",
		Frame{dst, src, -1, api.TypeIPv4, []byte{1, 2, 3}},
		row(dst[:], src[:], []byte{0x08, 0x00, 1, 2, 3})},
	{"noughts",
		Frame{VLAN: -1},
		make([]byte, 14)},
	{"a type that is a length",
		Frame{dst, src, -1, 0x0003, []byte{1, 2, 3}},
		row(dst[:], src[:], []byte{0, 3, 1, 2, 3})},
	{"the highest type",
		Frame{dst, src, -1, 0xFFFF, []byte{9}},
		row(dst[:], src[:], []byte{0xFF, 0xFF, 9})},
	{"81 that is no tag",
		Frame{dst, src, -1, 0x8101, []byte{0, 5, 8, 0}},
		row(dst[:], src[:], []byte{0x81, 0x01, 0, 5, 8, 0})},
	{"00 81 that is no tag",
		Frame{dst, src, -1, 0x0081, []byte{0, 5, 8, 0}},
		row(dst[:], src[:], []byte{0x00, 0x81, 0, 5, 8, 0})},
	{"a tag of a provider, that is no tag here",
		Frame{dst, src, -1, 0x88A8, []byte{0, 5, 8, 0}},
		row(dst[:], src[:], []byte{0x88, 0xA8, 0, 5, 8, 0})},
	{"81 00 in B alone",
		Frame{dst, src, -1, api.TypeIPv4, []byte{0x81, 0, 0, 5}},
		row(dst[:], src[:], []byte{8, 0, 0x81, 0, 0, 5})},
	{"81 00 in addresses alone",
		Frame{api.MAC{0x81, 0, 0x81, 0, 0x81, 0}, api.MAC{0x81, 0, 0x81, 0, 0x81, 0}, -1, api.TypeIPv4, []byte{1}},
		row(bytes.Repeat([]byte{0x81, 0}, 6), []byte{8, 0, 1})},
	{"a tag",
		Frame{dst, src, 0x0123, api.TypeIPv4, []byte{1, 2, 3}},
		row(dst[:], src[:], []byte{0x81, 0, 0x01, 0x23, 8, 0, 1, 2, 3})},
	{"a tag of 0",
		Frame{dst, src, 0, api.TypeARP, []byte{7}},
		row(dst[:], src[:], []byte{0x81, 0, 0, 0, 8, 6, 7})},
	{"a tag with all its bits",
		Frame{dst, src, 0xFFFF, api.TypeARP, []byte{7}},
		row(dst[:], src[:], []byte{0x81, 0, 0xFF, 0xFF, 8, 6, 7})},
	{"a tag above 4095",
		Frame{dst, src, 0xE005, api.TypeARP, []byte{7}},
		row(dst[:], src[:], []byte{0x81, 0, 0xE0, 0x05, 8, 6, 7})},
	{"a tag of 8100",
		Frame{dst, src, 0x8100, api.TypeARP, nil},
		row(dst[:], src[:], []byte{0x81, 0, 0x81, 0, 8, 6})},
	{"a tag and no bytes",
		Frame{dst, src, 5, 0, nil},
		row(dst[:], src[:], []byte{0x81, 0, 0, 5, 0, 0})},
	{"a tag whose type is 8100 again",
		Frame{dst, src, 5, api.TypeVLAN, []byte{0, 6, 8, 0}},
		row(dst[:], src[:], []byte{0x81, 0, 0, 5, 0x81, 0, 0, 6, 8, 0})},
	{"a tag whose type is 8100 again, and no bytes",
		Frame{dst, src, 5, api.TypeVLAN, nil},
		row(dst[:], src[:], []byte{0x81, 0, 0, 5, 0x81, 0})},
}

func TestParseAndBytesOfFrames(t *testing.T) {
	for _, c := range frames {
		f, err := Parse(c.bytes)
		if err != nil || !same(f, c.frame) {
			t.Errorf("%s: Parse: got %+v, %v, want %+v", c.name, f, err, c.frame)
		}
		b, err := c.frame.Bytes()
		if err != nil || !bytes.Equal(b, c.bytes) {
			t.Errorf("%s: Bytes: got % X, %v, want % X", c.name, b, err, c.bytes)
		}
	}
}

func TestGroup(t *testing.T) {
	for first := range 256 {
		for _, rest := range []byte{0x00, 0x01, 0xFE, 0xFF} {
			m := api.MAC{byte(first), rest, rest, rest, rest, rest}
			if got, want := Group(m), first%2 == 1; got != want {
				t.Fatalf("% X: got %v, want %v", m, got, want)
			}
		}
	}
	if !Group(api.All) || Group(api.MAC{}) {
		t.Fatal("everybody's address, and that of noughts")
	}
}

func TestParseOfBytesThatEndAheadOfB(t *testing.T) {
	plain := row(dst[:], src[:], []byte{8, 0})
	tagged := row(dst[:], src[:], []byte{0x81, 0, 0, 5, 8, 0})
	twice := row(dst[:], src[:], []byte{0x81, 0, 0, 5, 0x81, 0})
	for _, whole := range [][]byte{plain, tagged, twice} {
		for n := range whole {
			wantNoFrame(t, "bytes that end too early", whole[:n], api.ErrShort, "ether", "octets")
		}
		f, err := Parse(whole)
		if err != nil || len(f.B) != 0 {
			t.Fatalf("% X: got %+v, %v, want a frame of no bytes", whole, f, err)
		}
	}
	wantNoFrame(t, "no bytes", nil, api.ErrShort, "ether", "octets")
}

// What stands behind the end of a slice, in its room, is none of its bytes.
func TestParseLooksAtNoBytesBehindTheEnd(t *testing.T) {
	room := row(dst[:], src[:], []byte{0x81, 0, 0, 5, 8, 0, 1, 2, 3})
	for _, n := range []int{0, 11, 12, 13, 14, 15, 16, 17} {
		wantNoFrame(t, "bytes with more behind", room[:n], api.ErrShort, "ether", "octets")
	}
	f, err := Parse(room[:18])
	if err != nil || len(f.B) != 0 || cap(f.B) > 0 && &room[18] == &f.B[:1][0] {
		t.Fatalf("got %+v, %v", f, err)
	}
}

func TestParseAtTheLargestSize(t *testing.T) {
	for _, head := range [][]byte{
		row(dst[:], src[:], []byte{8, 0}),
		row(dst[:], src[:], []byte{0x81, 0, 0, 5, 8, 0}),
		row(dst[:], src[:], []byte{0x81, 0, 0, 5, 0x81, 0}),
	} {
		b := row(head, noise(9001-len(head), 1))
		f, err := Parse(b[:9000])
		if err != nil || !bytes.Equal(f.B, b[len(head):9000]) {
			t.Fatalf("9000 bytes behind % X: %d bytes, %v", head, len(f.B), err)
		}
		if f, err = Parse(b[:8999]); err != nil || len(f.B) != 8999-len(head) {
			t.Fatalf("8999 bytes behind % X: %d bytes, %v", head, len(f.B), err)
		}
		wantNoFrame(t, "9001 bytes", b, api.ErrBig, "ether")
		wantNoFrame(t, "many bytes", row(b, b), api.ErrBig, "ether")
	}
	wantNoFrame(t, "a million of noughts", make([]byte, 1000000), api.ErrBig, "ether")
}

func TestBytesAtTheLargestSize(t *testing.T) {
	b := noise(9001, 2)
	for _, c := range []struct {
		vlan, largest int
	}{{-1, 8986}, {0, 8982}, {5, 8982}, {65535, 8982}} {
		f := Frame{dst, src, c.vlan, api.TypeIPv4, b[:c.largest]}
		got, err := f.Bytes()
		if err != nil || len(got) != 9000 || !bytes.Equal(got[9000-c.largest:], b[:c.largest]) {
			t.Fatalf("VLAN %d: %d bytes, %v, want 9000", c.vlan, len(got), err)
		}
		for _, n := range []int{c.largest + 1, c.largest + 4, 9000, 9001} {
			f.B = b[:n]
			wantNoBytes(t, "a frame that is too large", f, api.ErrBig)
		}
	}
}

func TestBytesOfAWrongVLAN(t *testing.T) {
	for _, vlan := range []int{-2, -3, -65535, -65536, -65537, math.MinInt32, math.MinInt, 65536, 65537, 131071, math.MaxInt32, math.MaxInt} {
		for _, kind := range []uint16{0, api.TypeIPv4, api.TypeVLAN} {
			wantNoBytes(t, "a wrong VLAN", Frame{dst, src, vlan, kind, []byte{1}}, api.ErrArg)
		}
	}
}

func TestBytesOfATypeThatWouldBeATag(t *testing.T) {
	for _, b := range [][]byte{nil, {}, {0, 5, 8, 0}, {0, 5, 8, 0, 1, 2, 3}} {
		wantNoBytes(t, "VLAN -1 with type 8100", Frame{dst, src, -1, 0x8100, b}, api.ErrArg)
	}
	for _, kind := range []uint16{0x80FF, 0x8101, 0x0081} {
		if b, err := (Frame{dst, src, -1, kind, nil}).Bytes(); err != nil || len(b) != 14 {
			t.Fatalf("VLAN -1 with type %04X: got % X, %v", kind, b, err)
		}
	}
}

func TestBytesTellAWrongArgumentFirst(t *testing.T) {
	big := make([]byte, 9001)
	for _, f := range []Frame{{VLAN: -2, B: big}, {VLAN: 65536, B: big}, {VLAN: -1, Type: 0x8100, B: big}} {
		wantNoBytes(t, "a wrong frame that is too large", f, api.ErrArg)
	}
	wantNoBytes(t, "a frame that is too large alone", Frame{VLAN: 0, Type: 0x8100, B: big}, api.ErrBig)
}

// A zero Frame has a tag, of 0: -1 alone is none.
func TestBytesOfTheZeroFrame(t *testing.T) {
	b, err := Frame{}.Bytes()
	want := row(make([]byte, 12), []byte{0x81, 0, 0, 0, 0, 0})
	if err != nil || !bytes.Equal(b, want) {
		t.Fatalf("got % X, %v, want % X", b, err, want)
	}
}

func TestEachRowOfBytesIsOneFrame(t *testing.T) {
	sizes := []int{1499, 1500, 1514, 1518, 8999, 9000}
	for n := 14; n < 200; n++ {
		sizes = append(sizes, n)
	}
	for _, n := range sizes {
		b := noise(n, uint32(n))
		wantRoundTrip(t, b)
		if n >= 18 {
			copy(b[12:], []byte{0x81, 0})
			wantRoundTrip(t, b)
			copy(b[16:], []byte{0x81, 0})
			wantRoundTrip(t, b)
		}
	}
}

func wantRoundTrip(t *testing.T, b []byte) {
	t.Helper()
	f, err := Parse(b)
	if err != nil {
		t.Fatalf("Parse of %d bytes: %v", len(b), err)
	}
	got, err := f.Bytes()
	if err != nil || !bytes.Equal(got, b) {
		t.Fatalf("%d bytes came back as %d others, %v", len(b), len(got), err)
	}
}

func TestEachTagAndEachTypeComesBack(t *testing.T) {
	for n := range 1 << 16 {
		for _, f := range []Frame{
			{dst, src, n, api.TypeIPv4, []byte{1}},
			{dst, src, n, uint16(n), nil},
			{dst, src, -1, uint16(n), []byte{1, 2}},
		} {
			if f.VLAN == -1 && f.Type == api.TypeVLAN {
				continue
			}
			b, err := f.Bytes()
			if err != nil {
				t.Fatalf("Bytes of %+v: %v", f, err)
			}
			if got, err := Parse(b); err != nil || !same(got, f) {
				t.Fatalf("%+v came back as %+v, %v", f, got, err)
			}
		}
	}
}

func TestParseKeepsNothingThatItWasHanded(t *testing.T) {
	for _, c := range frames {
		b := bytes.Clone(c.bytes)
		f, err := Parse(b)
		if err != nil {
			t.Fatal(err)
		}
		if !bytes.Equal(b, c.bytes) {
			t.Fatalf("%s: Parse has changed what it was handed", c.name)
		}
		for i := range b {
			b[i] = 0xEE
		}
		if !same(f, c.frame) {
			t.Fatalf("%s: got %+v once the bytes were written over", c.name, f)
		}
	}
}

func TestParsedFramesAreTheCallers(t *testing.T) {
	for _, c := range frames {
		room := append(bytes.Clone(c.bytes), 0xAA, 0xAA)
		b := room[:len(c.bytes)]
		one, err := Parse(b)
		if err != nil {
			t.Fatal(err)
		}
		two, err := Parse(b)
		if err != nil {
			t.Fatal(err)
		}
		clear(append(one.B, 9, 9))
		clear(one.B)
		if !bytes.Equal(room, append(bytes.Clone(c.bytes), 0xAA, 0xAA)) {
			t.Fatalf("%s: a frame shares what Parse was handed", c.name)
		}
		if !same(two, c.frame) {
			t.Fatalf("%s: two frames share bytes: %+v", c.name, two)
		}
	}
}

func TestBytesKeepNothingOfTheFrame(t *testing.T) {
	for _, c := range frames {
		room := append(bytes.Clone(c.frame.B), 0xAA, 0xAA)
		f := c.frame
		f.B = room[:len(c.frame.B)]
		one, err := f.Bytes()
		if err != nil {
			t.Fatal(err)
		}
		two, err := f.Bytes()
		if err != nil {
			t.Fatal(err)
		}
		clear(append(one, 9, 9))
		clear(one)
		if !same(f, c.frame) || !bytes.Equal(room[len(f.B):], []byte{0xAA, 0xAA}) {
			t.Fatalf("%s: bytes share the frame's: %+v", c.name, f)
		}
		clear(room)
		if !bytes.Equal(two, c.bytes) {
			t.Fatalf("%s: got % X once the frame was written over, want % X", c.name, two, c.bytes)
		}
	}
}

func TestCallsThatFailLeaveWhatTheyWereHanded(t *testing.T) {
	short := []byte{1, 2, 3}
	wantNoFrame(t, "three bytes", short, api.ErrShort, "ether", "octets")
	big := noise(9001, 3)
	want := bytes.Clone(big)
	wantNoFrame(t, "9001 bytes", big, api.ErrBig, "ether")
	wantNoBytes(t, "9001 bytes", Frame{VLAN: -1, B: big}, api.ErrBig)
	wantNoBytes(t, "9001 bytes", Frame{VLAN: -2, B: big}, api.ErrArg)
	if !bytes.Equal(short, []byte{1, 2, 3}) || !bytes.Equal(big, want) {
		t.Fatal("a call that failed has changed what it was handed")
	}
}

func FuzzParse(f *testing.F) {
	for _, c := range frames {
		f.Add(c.bytes)
		f.Add(c.bytes[:len(c.bytes)-1])
	}
	f.Fuzz(func(t *testing.T, b []byte) {
		frame, err := Parse(b)
		if err != nil {
			return
		}
		if got, err := frame.Bytes(); err != nil || !bytes.Equal(got, b) {
			t.Fatalf("% X came back as % X, %v", b, got, err)
		}
	})
}
