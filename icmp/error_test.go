package icmp

import (
	"bytes"
	"reflect"
	"strconv"
	"testing"

	"underpass/api"
	"underpass/ipv4"
)

// packet is the bytes of one of this protocol, at this place of a larger one.
func packet(proto uint8, off int, b ...byte) []byte {
	p := []byte{0x45, 0x61, byte((20 + len(b)) >> 8), byte(20 + len(b)), 0x21, 0x22, byte(off / 8 >> 8), byte(off / 8),
		0x31, proto, 0, 0, 0x51, 0x52, 0x53, 0x54, 0x61, 0x62, 0x63, 0x64}
	seal(p, 10)
	return append(p, b...)
}

// sealed is a packet's bytes with others at a place of its head, and the sum
// that its head has then.
func sealed(p []byte, at int, others ...byte) []byte {
	p = bytes.Clone(p)
	copy(p[at:], others)
	seal(p[:20], 10)
	return p
}

// some is n bytes, of which no two are alike for a while; the first says that
// it is of an Echo.
func some(n int) []byte {
	b := make([]byte, n)
	for i := range b {
		b[i] = byte(8 + i*3)
	}
	return b
}

// wantTold asks for the message of these fields, whose B is as said.
func wantTold(t *testing.T, what string, p, b []byte) {
	t.Helper()
	want := Message{0x71, 0x72, 0x81828384, b}
	if m, err := Error(p, 0x71, 0x72, 0x81828384); err != nil || !same(m, want) {
		t.Fatalf("%s: got %+v, %v, want %+v", what, m, err, want)
	}
}

// wantNotNow asks for ErrState.
func wantNotNow(t *testing.T, what string, p []byte) {
	t.Helper()
	m, err := Error(p, Unreachable, FragNeeded, 1450)
	wantOwn(t, what, m, err, api.ErrState)
}

// wantNoPacket asks for the error that ipv4 has of these bytes.
func wantNoPacket(t *testing.T, what string, p []byte, code api.Errno) {
	t.Helper()
	m, err := Error(p, Unreachable, FragNeeded, 1450)
	wantError(t, what, m, err, api.Wrap("ipv4", code), "ipv4: error "+strconv.Itoa(int(code)))
	_, met := ipv4.Parse(p)
	if !reflect.DeepEqual(err, api.Wrap("icmp", met)) {
		t.Fatalf("%s: got %v, and ipv4 tells %v", what, err, met)
	}
}

func TestErrorOfAPacket(t *testing.T) {
	p := []byte{0x45, 0, 0, 0x1D, 0, 1, 0, 0, 0x40, 0x11, 0x66, 0xCD, 10, 0, 0, 1, 10, 0, 0, 2,
		0x12, 0xB5, 0, 0x35, 0, 9, 0, 0, 7}
	m, err := Error(p, Unreachable, FragNeeded, 1450)
	want := Message{Unreachable, FragNeeded, 1450, p[:28]}
	if err != nil || !same(m, want) {
		t.Fatalf("got %+v, %v, want %+v", m, err, want)
	}
	if n, ok := MTU(m); n != 1450 || !ok {
		t.Fatalf("got an MTU of %d, %v", n, ok)
	}
	wantMessage(t, "what was written", m.Bytes(), want)
}

func TestErrorOfPacketsOfEachSize(t *testing.T) {
	for n := range 300 {
		for _, proto := range []uint8{api.ICMP, api.TCP, api.UDP, api.ProtoGRE, 0, 255} {
			p := packet(proto, 0, some(n)...)
			switch {
			case n == 0 && proto == api.ICMP:
				wantNotNow(t, "a message of no bytes", p)
			case n < 8:
				wantTold(t, "fewer than eight bytes", p, bytes.Clone(p))
			default:
				wantTold(t, "eight bytes or more", p, bytes.Clone(p[:28]))
			}
		}
	}
	p := packet(api.UDP, 0, some(65515)...)
	wantTold(t, "the largest packet", p, bytes.Clone(p[:28]))
}

// The type, code and Rest are what was handed in, and nothing of them is looked
// at; those of the packet matter as little.
func TestErrorOfEachTypeCodeAndRest(t *testing.T) {
	p := packet(api.UDP, 0, some(8)...)
	for n := range 1 << 16 {
		for _, rest := range []uint32{uint32(n), uint32(n) << 16, uint32(n) * 0x9E3779B1} {
			want := Message{byte(n), byte(n >> 8), rest, p}
			if m, err := Error(p, byte(n), byte(n>>8), rest); err != nil || !same(m, want) {
				t.Fatalf("got %+v, %v, want %+v", m, err, want)
			}
		}
	}
}

func TestErrorOfEachProtocolAndFirstByte(t *testing.T) {
	for proto := range 256 {
		none := packet(byte(proto), 0)
		if proto == 1 {
			wantNotNow(t, "a message of no bytes", none)
		} else {
			wantTold(t, "no bytes", none, bytes.Clone(none))
		}
		for first := range 256 {
			for _, behind := range []int{0, 1, 7, 20} {
				p := packet(byte(proto), 0, append([]byte{byte(first)}, some(behind)...)...)
				if proto == 1 && first != 0 && first != 8 {
					wantNotNow(t, "a message that is no echo", p)
				} else {
					wantTold(t, "another one", p, bytes.Clone(p[:min(28, len(p))]))
				}
			}
		}
	}
}

func TestErrorOfAPartBehindTheFirst(t *testing.T) {
	for off := 8; off <= 65504; off += 8 {
		wantNotNow(t, "a part of UDP", packet(api.UDP, off, some(8)...))
	}
	wantNotNow(t, "the last part that there may be", packet(api.UDP, 65512, 1, 2, 3))
	for proto := range 256 {
		for first := range 256 {
			wantNotNow(t, "a part", packet(byte(proto), 8, byte(first), 1, 2))
		}
		wantNotNow(t, "a part of no bytes", packet(byte(proto), 8))
		wantNotNow(t, "a part with more behind it", sealed(packet(byte(proto), 8, some(8)...), 6, 0x20))
		wantNotNow(t, "a part that may not be split", sealed(packet(byte(proto), 8, some(8)...), 6, 0x40))
	}
}

// Of a first part, and of a packet that may not be split, its sender is told.
func TestErrorOfAPacketWithFlags(t *testing.T) {
	for _, proto := range []uint8{api.ICMP, api.UDP} {
		for _, flags := range []byte{0x20, 0x40, 0x60} {
			p := sealed(packet(proto, 0, some(16)...), 6, flags)
			wantTold(t, "a packet with flags", p, bytes.Clone(p[:28]))
		}
	}
	wantNotNow(t, "a first part of an error", sealed(packet(api.ICMP, 0, 3, 1, 2, 3, 4, 5, 6, 7), 6, 0x20))
}

// What stands behind a packet is none of its bytes, even where it has fewer than
// eight of its own.
func TestErrorOfAPacketWithOthersBehind(t *testing.T) {
	for _, more := range [][]byte{{0}, {8}, make([]byte, 26), bytes.Repeat([]byte{0x45, 0, 0, 20}, 9), make([]byte, 70000)} {
		for n := range 20 {
			p := packet(api.UDP, 0, some(n)...)
			wantTold(t, "a packet", append(bytes.Clone(p), more...), bytes.Clone(p[:min(28, len(p))]))
		}
		wantNotNow(t, "a message of no bytes", append(packet(api.ICMP, 0), more...))
		wantNotNow(t, "a message that is no echo", append(packet(api.ICMP, 0, 3), more...))
		wantNotNow(t, "a part", append(packet(api.UDP, 8, 3), more...))
	}
}

// The head is told as it came: FFFF is as right as 0, which ipv4 writes.
func TestErrorTellsTheHeadAsItCame(t *testing.T) {
	p := sealed(packet(api.UDP, 0, some(8)...), 4, 0, 0)
	p = sealed(p, 4, p[10], p[11])
	if p[10] != 0 || p[11] != 0 {
		t.Fatalf("a sum of %02X %02X", p[10], p[11])
	}
	wantTold(t, "a sum of 0", p, bytes.Clone(p))
	p[10], p[11] = 0xFF, 0xFF
	wantTold(t, "a sum of FFFF", p, bytes.Clone(p))
}

// wrongs are what ipv4 finds wrong with a packet.
var wrongs = []struct {
	name string
	code api.Errno
	make func(p []byte) []byte
}{
	{"version 6", api.ErrProto, func(p []byte) []byte { return sealed(p, 0, 0x65) }},
	{"four words", api.ErrForm, func(p []byte) []byte { return sealed(p, 0, 0x44) }},
	{"options", api.ErrOption, func(p []byte) []byte { return sealed(p, 0, 0x46) }},
	{"nineteen bytes in all", api.ErrForm, func(p []byte) []byte { return sealed(p, 2, 0, 19) }},
	{"more bytes in all than there are", api.ErrShort, func(p []byte) []byte { return sealed(p, 2, 0xFF, 0xFF) }},
	{"another sum", api.ErrSum, func(p []byte) []byte { p = bytes.Clone(p); p[11] ^= 1; return p }},
	{"the highest flag", api.ErrForm, func(p []byte) []byte { return sealed(p, 6, p[6]|0x80) }},
	{"more, and an odd number of bytes", api.ErrForm, func(p []byte) []byte { return sealed(append(p, 7), 2, 0, byte(len(p)+1), 0x21, 0x22, p[6]|0x20) }},
	{"an Off that is too large", api.ErrForm, func(p []byte) []byte { return sealed(p, 6, 0x1F, 0xFF) }},
}

// untold are packets that nobody may be told of, and one that is right.
var untold = []struct {
	name string
	make func() []byte
}{
	{"right", func() []byte { return packet(api.UDP, 0, some(8)...) }},
	{"a message that is no echo", func() []byte { return packet(api.ICMP, 0, 3, 1, 2, 3, 4, 5, 6, 7) }},
	{"a part", func() []byte { return packet(api.UDP, 8, some(8)...) }},
	{"a part of ICMP", func() []byte { return packet(api.ICMP, 8, 3, 1, 2, 3, 4, 5, 6, 7) }},
}

// What is wrong with the packet is told first, whatever else it is.
func TestErrorOfWhatIsNoPacket(t *testing.T) {
	for _, c := range untold {
		for _, w := range wrongs {
			wantNoPacket(t, w.name+", "+c.name, w.make(c.make()), w.code)
		}
		if c.name != "right" {
			wantNotNow(t, c.name, c.make())
		}
	}
}

func TestErrorOfAPacketThatEndsTooEarly(t *testing.T) {
	for _, c := range untold {
		p := c.make()
		for n := range len(p) {
			if n >= 20 {
				wantNoPacket(t, c.name, p[:n], api.ErrShort)
				continue
			}
			for _, b := range [][]byte{p[:n], bytes.Clone(p[:n]), make([]byte, n)} {
				m, err := Error(b, Unreachable, FragNeeded, 1450)
				met := api.Wrap("ipv4", api.Wrap("octets", api.ErrShort))
				wantError(t, c.name, m, err, met, "ipv4: octets: error 2")
			}
		}
	}
	m, err := Error(nil, 0, 0, 0)
	wantError(t, "nil", m, err, api.Wrap("ipv4", api.Wrap("octets", api.ErrShort)), "ipv4: octets: error 2")
}

// Options stand where a packet's own bytes would: ipv4 takes none of them.
func TestErrorOfAPacketWithOptions(t *testing.T) {
	for words := 6; words <= 15; words++ {
		p := packet(api.UDP, 0, some(words*4)...)
		wantNoPacket(t, "options", sealed(p, 0, 0x40|byte(words)), api.ErrOption)
	}
}

// Nobody is told of an error that tells of an error.
func TestErrorOfAnErrorIsNone(t *testing.T) {
	p := packet(api.UDP, 0, some(8)...)
	for typ := range 256 {
		m, err := Error(p, byte(typ), FragNeeded, 1450)
		if err != nil {
			t.Fatal(err)
		}
		b, err := ipv4.Packet{TTL: 64, Proto: api.ICMP, Src: 2, Dst: 1, B: m.Bytes()}.Bytes()
		if err != nil {
			t.Fatal(err)
		}
		if typ == EchoReply || typ == Echo {
			wantTold(t, "an echo", b, bytes.Clone(b[:28]))
		} else {
			wantNotNow(t, "an error of an error", b)
		}
	}
}

func TestErrorKeepsNothingThatItWasHanded(t *testing.T) {
	for n := range 12 {
		p := append(packet(api.UDP, 0, some(n)...), 0xAA, 0xAA)
		was := bytes.Clone(p)
		m, err := Error(p, 1, 2, 3)
		if !bytes.Equal(p, was) {
			t.Fatalf("Error has changed % X to % X", was, p)
		}
		clear(p)
		if want := (Message{1, 2, 3, was[:20+min(n, 8)]}); err != nil || !same(m, want) {
			t.Fatalf("got %+v, %v once the bytes were written over", m, err)
		}
	}
}

func TestMessagesOfErrorsAreTheCallers(t *testing.T) {
	p := packet(api.UDP, 0, some(12)...)
	was := bytes.Clone(p)
	first, _ := Error(p, 1, 2, 3)
	second, err := Error(p, 1, 2, 3)
	clear(append(first.B, 9, 9, 9))
	clear(first.B)
	if want := (Message{1, 2, 3, was[:28]}); err != nil || !same(second, want) {
		t.Fatalf("two messages share bytes: %+v, %v", second, err)
	}
	if !bytes.Equal(p, was) {
		t.Fatalf("a message shares what Error was handed: % X", p)
	}
}

// What is refused stays as it was, too.
func TestCallsThatFailLeaveWhatTheyWereHanded(t *testing.T) {
	var refused [][]byte
	for _, c := range untold[1:] {
		refused = append(refused, c.make(), c.make()[:19])
	}
	for _, w := range wrongs {
		refused = append(refused, w.make(packet(api.UDP, 0, some(8)...)))
	}
	for _, p := range refused {
		was := bytes.Clone(p)
		if _, err := Error(p, 1, 2, 3); err == nil || !bytes.Equal(p, was) {
			t.Fatalf("% X became % X, %v", was, p, err)
		}
	}
	for _, b := range [][]byte{{8, 0, 0xF7, 0xFE, 0, 0, 0}, {8, 0, 0xF7, 0xFE, 0, 0, 0, 2, 3}} {
		was := bytes.Clone(b)
		if _, err := Parse(b); err == nil || !bytes.Equal(b, was) {
			t.Fatalf("% X became % X, %v", was, b, err)
		}
	}
}

func FuzzError(f *testing.F) {
	for _, c := range untold {
		f.Add(c.make(), true)
		for _, w := range wrongs {
			f.Add(w.make(c.make()), false)
		}
	}
	f.Fuzz(func(t *testing.T, p []byte, seals bool) {
		if seals && len(p) >= 20 {
			p = sealed(p, 0)
		}
		m, err := Error(p, Unreachable, FragNeeded, 1450)
		if err != nil {
			if !same(m, Message{}) {
				t.Fatalf("% X: %+v beside %v", p, m, err)
			}
			return
		}
		if len(m.B) < 20 || len(m.B) > 28 || !bytes.HasPrefix(p, m.B) || p[9] == api.ICMP && p[20] != 0 && p[20] != 8 {
			t.Fatalf("% X: %+v", p, m)
		}
		wantMessage(t, "what was written", m.Bytes(), m)
	})
}
