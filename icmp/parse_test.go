package icmp

import (
	"bytes"
	"testing"

	"underpass/api"
	"underpass/octets"
)

func TestParseOfBytesThatEndTooEarly(t *testing.T) {
	for _, c := range messages {
		b := told(c.message)
		for n := range 8 {
			wantNoHead(t, c.name, bytes.Clone(b[:n]))
			// What stands behind the end, in its room, is none of its bytes.
			wantNoHead(t, c.name+", with more behind", b[:n])
		}
	}
	wantNoHead(t, "nil", nil)
}

func TestNoNumberIsReadBehindOneThatIsNotThere(t *testing.T) {
	n := &numbers{from: octets.Read([]byte{1, 2, 3})}
	first, second, third := next(n, (*octets.Reader).U8), next(n, (*octets.Reader).U32), next(n, (*octets.Reader).U16)
	if first != 1 || second != 0 || third != 0 || n.from.Left() != 2 || api.Code(n.err) != api.ErrShort {
		t.Fatalf("got %d, %d, %d, %d left, %v", first, second, third, n.from.Left(), n.err)
	}
}

// That bytes end too early is told ahead of their sum, be it right or not.
func TestParseTellsTheFirstFault(t *testing.T) {
	for n := range 8 {
		wantNoHead(t, "noughts", make([]byte, n))
		wantNoHead(t, "FF", bytes.Repeat([]byte{0xFF}, n))
		if n >= 4 {
			b := bytes.Repeat([]byte{0x5A}, n)
			seal(b, 2)
			wantNoHead(t, "fewer than eight, with their sum", b)
			b[3] ^= 1
			wantNoHead(t, "fewer than eight, with another sum", b)
		}
	}
	wantNone(t, "eight, with another sum", []byte{8, 0, 0xF7, 0xFF, 0, 0, 0, 1}, api.ErrSum)
	wantNone(t, "eight noughts", make([]byte, 8), api.ErrSum)
	wantNone(t, "nine noughts", make([]byte, 9), api.ErrSum)
}

// A sum is right, if all is a multiple of 65535, but not nothing: of 0 and FFFF
// both are right, where anything else stands beside them, since they make the
// same of it.
func TestParseOfEachSum(t *testing.T) {
	for _, c := range messages {
		if len(c.message.B) > 100 {
			continue
		}
		b, taken := told(c.message), 0
		for n := range 1 << 16 {
			b[2], b[3] = byte(n>>8), byte(n)
			if all := total(b); all > 0 && all%65535 == 0 {
				wantMessage(t, c.name+" with its sum", b, c.message)
				taken++
			} else {
				wantNone(t, c.name+" with another sum", b, api.ErrSum)
			}
		}
		if right := told(c.message); taken != 1 && !(taken == 2 && right[2] == 0 && right[3] == 0) {
			t.Fatalf("%s: %d sums are right", c.name, taken)
		}
	}
}

func TestParseOfASumOf0AndOfFFFF(t *testing.T) {
	m := Message{Echo, 0, 0xF7FE0001, nil}
	wantMessage(t, "0", []byte{8, 0, 0, 0, 0xF7, 0xFE, 0, 1}, m)
	wantMessage(t, "FFFF in place of 0", []byte{8, 0, 0xFF, 0xFF, 0xF7, 0xFE, 0, 1}, m)
	wantMessage(t, "FFFF of noughts", []byte{0, 0, 0xFF, 0xFF, 0, 0, 0, 0}, Message{})
	wantNone(t, "0 of noughts", []byte{0, 0, 0, 0, 0, 0, 0, 0}, api.ErrSum)
	wantNone(t, "0 of others", []byte{8, 0, 0, 0, 0, 0, 0, 1}, api.ErrSum)
	wantNone(t, "FFFF of others", []byte{8, 0, 0xFF, 0xFF, 0, 0, 0, 1}, api.ErrSum)
}

// A bit that is another one is always found.
func TestParseOfEachBitTurned(t *testing.T) {
	for _, c := range messages {
		if len(c.message.B) > 100 {
			continue
		}
		for bit := range (8 + len(c.message.B)) * 8 {
			b := told(c.message)
			b[bit/8] ^= 1 << (bit % 8)
			wantNone(t, c.name, b, api.ErrSum)
		}
	}
}

// All bytes are the message's: none stands behind it.
func TestParseOfEachSmallSize(t *testing.T) {
	for n := range 300 {
		m := ordinary(bytes.Repeat([]byte{0x81, 2, 3}, n)[:n]...)
		wantMessage(t, "some bytes", told(m), m)
	}
	b := told(ordinary(1, 2, 3, 4))
	wantNone(t, "a byte more", append(bytes.Clone(b), 1), api.ErrSum)
	wantNone(t, "two bytes more", append(bytes.Clone(b), 1, 2), api.ErrSum)
	wantNone(t, "a byte fewer", b[:11], api.ErrSum)
	wantMessage(t, "a nought more", append(bytes.Clone(b), 0), ordinary(1, 2, 3, 4, 0))
}

// Parse takes any type and any code.
func TestParseOfEachTypeAndCode(t *testing.T) {
	for n := range 1 << 16 {
		m := Message{byte(n >> 8), byte(n), 0x21222324, []byte{1, 2, 3}}
		wantMessage(t, "a type and a code", told(m), m)
	}
}

func FuzzParse(f *testing.F) {
	for _, c := range messages {
		f.Add(told(c.message), true)
		f.Add(told(c.message)[:7], false)
	}
	f.Fuzz(func(t *testing.T, b []byte, seals bool) {
		if seals && len(b) >= 8 {
			b = bytes.Clone(b)
			seal(b, 2)
		}
		m, err := Parse(b)
		if err != nil {
			if !same(m, Message{}) || seals && len(b) >= 8 {
				t.Fatalf("% X: %+v beside %v", b, m, err)
			}
			return
		}
		got := m.Bytes()
		if b[2] == 0xFF && b[3] == 0xFF && got[2] == 0 && got[3] == 0 {
			got[2], got[3] = 0xFF, 0xFF
		}
		if !bytes.Equal(got, b) {
			t.Fatalf("% X came back as % X", b, got)
		}
		wantMessage(t, "what was written", got, m)
	})
}
