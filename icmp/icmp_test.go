package icmp

import (
	"bytes"
	"errors"
	"reflect"
	"strconv"
	"testing"

	"underpass/api"
)

// messages are some, each with its first eight bytes, whose sums were reckoned
// elsewhere.
var messages = []struct {
	name    string
	message Message
	head    []byte
}{
	{"the chapter's example",
		Message{Echo, 0, 1, nil},
		[]byte{8, 0, 0xF7, 0xFE, 0, 0, 0, 1}},
	{"the answer to the chapter's example",
		Message{EchoReply, 0, 1, nil},
		[]byte{0, 0, 0xFF, 0xFE, 0, 0, 0, 1}},
	{"a well-known echo",
		Message{Echo, 0, 0x00010001, []byte("abcdefghijklmnopqrstuvwabcdefghi")},
		[]byte{8, 0, 0x4D, 0x5A, 0, 1, 0, 1}},
	{"no two fields alike",
		Message{0x11, 0x12, 0x21222324, nil},
		[]byte{0x11, 0x12, 0xAA, 0xA7, 0x21, 0x22, 0x23, 0x24}},
	{"one byte",
		Message{0x11, 0x12, 0x21222324, []byte{1}},
		[]byte{0x11, 0x12, 0xA9, 0xA7, 0x21, 0x22, 0x23, 0x24}},
	{"an odd number of bytes",
		Message{0x11, 0x12, 0x21222324, []byte{1, 2, 3}},
		[]byte{0x11, 0x12, 0xA6, 0xA5, 0x21, 0x22, 0x23, 0x24}},
	{"an even number of bytes",
		Message{0x11, 0x12, 0x21222324, []byte{1, 2, 3, 4}},
		[]byte{0x11, 0x12, 0xA6, 0xA1, 0x21, 0x22, 0x23, 0x24}},
	{"of a packet that is too large",
		Message{Unreachable, FragNeeded, 1450, append([]byte{0x45, 0, 0, 0x1C, 0, 1, 0, 0, 0, 0x11}, bytes.Repeat([]byte{0x5A}, 18)...)},
		[]byte{3, 4, 0x84, 0xF6, 0, 0, 5, 0xAA}},
	{"noughts",
		Message{},
		[]byte{0, 0, 0xFF, 0xFF, 0, 0, 0, 0}},
	{"noughts, and an odd number of them in B",
		Message{B: []byte{0, 0, 0}},
		[]byte{0, 0, 0xFF, 0xFF, 0, 0, 0, 0}},
	{"the highest numbers",
		Message{0xFF, 0xFF, 0xFFFFFFFF, nil},
		[]byte{0xFF, 0xFF, 0, 0, 0xFF, 0xFF, 0xFF, 0xFF}},
	{"the highest numbers, and an odd number of them in B",
		Message{0xFF, 0xFF, 0xFFFFFFFF, []byte{0xFF, 0xFF, 0xFF}},
		[]byte{0xFF, 0xFF, 0, 0xFF, 0xFF, 0xFF, 0xFF, 0xFF}},
	{"a sum of 0",
		Message{Echo, 0, 0xF7FE0001, nil},
		[]byte{8, 0, 0, 0, 0xF7, 0xFE, 0, 1}},
	{"a sum of 0, of type and code alone",
		Message{0xFF, 0xFF, 0, nil},
		[]byte{0xFF, 0xFF, 0, 0, 0, 0, 0, 0}},
	{"a sum of 0, of two bytes",
		Message{0xFF, 0xFE, 0, []byte{0, 1}},
		[]byte{0xFF, 0xFE, 0, 0, 0, 0, 0, 0}},
	{"a sum of 0, of an odd number of bytes",
		Message{0xFE, 0xFF, 0, []byte{1}},
		[]byte{0xFE, 0xFF, 0, 0, 0, 0, 0, 0}},
	{"as many bytes as a packet has room for",
		Message{Echo, 0, 1, bytes.Repeat([]byte{0xA5}, 65507)},
		[]byte{8, 0, 0x34, 0xE0, 0, 0, 0, 1}},
}

// ordinary is a message of B, whose fields are all unlike.
func ordinary(b ...byte) Message { return Message{0x11, 0x12, 0x21222324, b} }

// total is what the numbers of two bytes are together.
func total(b []byte) int {
	n := 0
	for i, x := range b {
		if i%2 == 0 {
			n += int(x) * 256
		} else {
			n += int(x)
		}
	}
	return n
}

// seal lays into the bytes of a message, or of a packet's head, the sum that
// they have, at its place: what is behind a multiple of 65535, since the carries
// that come round make that of it.
func seal(b []byte, at int) {
	b[at], b[at+1] = 0, 0
	sum := 65535
	if n := total(b); n > 0 {
		sum = 65534 - (n-1)%65535
	}
	b[at], b[at+1] = byte(sum/256), byte(sum)
}

// told is what a message's bytes are.
func told(m Message) []byte {
	b := []byte{m.Type, m.Code, 0, 0, byte(m.Rest >> 24), byte(m.Rest >> 16), byte(m.Rest >> 8), byte(m.Rest)}
	b = append(b, m.B...)
	seal(b, 2)
	return b
}

func same(m, o Message) bool {
	sameB := bytes.Equal(m.B, o.B)
	m.B, o.B = nil, nil
	return sameB && reflect.DeepEqual(m, o)
}

// wantError asks for an error that this layer has met, its text and its number,
// and for no message beside it.
func wantError(t *testing.T, what string, m Message, err, met error, text string) {
	t.Helper()
	if !reflect.DeepEqual(err, api.Wrap("icmp", met)) || err.Error() != "icmp: "+text {
		t.Fatalf("%s: got %v, want icmp: %s", what, err, text)
	}
	if api.Code(err) != api.Code(met) || !errors.Is(err, api.Code(met)) {
		t.Fatalf("%s: got code %d of %v", what, api.Code(err), err)
	}
	if !reflect.DeepEqual(m, Message{}) {
		t.Fatalf("%s: a message beside the error: %+v", what, m)
	}
}

// wantOwn asks for an error of this layer's own.
func wantOwn(t *testing.T, what string, m Message, err error, code api.Errno) {
	t.Helper()
	wantError(t, what, m, err, code, "error "+strconv.Itoa(int(code)))
}

func wantMessage(t *testing.T, what string, b []byte, want Message) {
	t.Helper()
	if m, err := Parse(b); err != nil || !same(m, want) {
		t.Fatalf("%s: got %+v, %v, want %+v", what, m, err, want)
	}
}

func wantNone(t *testing.T, what string, b []byte, code api.Errno) {
	t.Helper()
	m, err := Parse(b)
	wantOwn(t, what, m, err, code)
}

// wantNoHead asks for the error of octets, which fewer than eight bytes have.
func wantNoHead(t *testing.T, what string, b []byte) {
	t.Helper()
	m, err := Parse(b)
	wantError(t, what, m, err, api.Wrap("octets", api.ErrShort), "octets: error 2")
}

func wantBytes(t *testing.T, what string, m Message, want []byte) {
	t.Helper()
	if b := m.Bytes(); !bytes.Equal(b, want) {
		t.Fatalf("%s: got %d bytes, %.40X, want %.40X", what, len(b), b, want)
	}
}

func TestParseAndBytesOfMessages(t *testing.T) {
	for _, c := range messages {
		b := append(bytes.Clone(c.head), c.message.B...)
		wantBytes(t, c.name, c.message, b)
		wantMessage(t, c.name, b, c.message)
	}
}

func TestTheChaptersExample(t *testing.T) {
	b := Message{Type: Echo, Rest: 1}.Bytes()
	if !bytes.Equal(b, []byte{0x08, 0x00, 0xF7, 0xFE, 0x00, 0x00, 0x00, 0x01}) {
		t.Fatalf("got % X", b)
	}
	m, err := Parse(b)
	if err != nil || m.Type != 8 || m.Code != 0 || m.Rest != 1 || len(m.B) != 0 {
		t.Fatalf("got %+v, %v", m, err)
	}
}

func TestNumbersOfTheTypesAndOfTheCode(t *testing.T) {
	if EchoReply != 0 || Unreachable != 3 || Echo != 8 || FragNeeded != 4 {
		t.Fatal(EchoReply, Unreachable, Echo, FragNeeded)
	}
}

// each is a call for many messages: one with each number that a field can have,
// but that of Rest, whose halves and bits are gone through.
func each(call func(m Message)) {
	for n := range 1 << 16 {
		call(Message{byte(n), byte(n >> 8), uint32(n)*0x9E3779B1 + 5, []byte{byte(n), 2, 3}})
		call(Message{Echo, 0, uint32(n), nil})
		call(Message{Unreachable, FragNeeded, uint32(n) << 16, []byte{1}})
		call(Message{1, 2, 3, []byte{byte(n >> 8), byte(n)}})
	}
	for bit := range 32 {
		call(Message{0, 0, 1 << bit, nil})
		call(Message{0xFF, 0xFF, ^uint32(1 << bit), []byte{0xFF}})
	}
	for _, n := range []int{0, 1, 2, 3, 7, 8, 9, 246, 247, 248, 255, 256, 1472, 8980, 65507, 65508, 65527, 65536, 70001} {
		for _, x := range []byte{0, 1, 0xA5, 0xFF} {
			call(ordinary(bytes.Repeat([]byte{x}, n)...))
		}
	}
}

func TestWhatIsWrittenIsReadAgain(t *testing.T) {
	each(func(m Message) {
		wantMessage(t, "what was written", m.Bytes(), m)
	})
}

func TestWhatIsReadIsWrittenAgain(t *testing.T) {
	each(func(m Message) {
		b := told(m)
		got, err := Parse(b)
		if err != nil {
			t.Fatalf("% X: %v", b, err)
		}
		wantBytes(t, "what was read", got, b)
	})
}

func TestParseKeepsNothingThatItWasHanded(t *testing.T) {
	for _, c := range messages {
		b := told(c.message)
		m, err := Parse(b)
		if !bytes.Equal(b, told(c.message)) {
			t.Fatalf("%s: Parse has changed what it was handed", c.name)
		}
		for i := range b {
			b[i] = 0xEE
		}
		if err != nil || !same(m, c.message) {
			t.Fatalf("%s: got %+v, %v once the bytes were written over", c.name, m, err)
		}
		b[2], b[3] = 0, 1
		wantNone(t, "the bytes that were written over", b, api.ErrSum)
	}
}

func TestParsedMessagesAreTheCallers(t *testing.T) {
	for _, c := range messages {
		room := append(told(c.message), 0xAA, 0xAA, 0xAA)
		b := room[:len(room)-3]
		first, _ := Parse(b)
		second, err := Parse(b)
		clear(append(first.B, 9, 9, 9))
		clear(first.B)
		if err != nil || !same(second, c.message) {
			t.Fatalf("%s: two messages share bytes: %+v, %v", c.name, second, err)
		}
		if !bytes.Equal(room, append(told(c.message), 0xAA, 0xAA, 0xAA)) {
			t.Fatalf("%s: a message shares what Parse was handed: % X", c.name, room)
		}
	}
}

func TestBytesKeepNothingOfTheMessage(t *testing.T) {
	for _, c := range messages {
		m := c.message
		room := append(bytes.Clone(m.B), 0xAA, 0xAA)
		m.B = room[:len(m.B)]
		first, second := m.Bytes(), m.Bytes()
		clear(append(first, 9, 9))
		clear(first)
		if !same(m, c.message) || !bytes.Equal(room[len(m.B):], []byte{0xAA, 0xAA}) {
			t.Fatalf("%s: bytes share the message's: %+v", c.name, m)
		}
		clear(room)
		if !bytes.Equal(second, told(c.message)) {
			t.Fatalf("%s: got % X once the message was written over", c.name, second)
		}
		wantBytes(t, c.name, c.message, told(c.message))
	}
}
