package sum

import (
	"bytes"
	"math"
	"testing"

	"underpass/api"
)

// plain adds as the chapter's words say it, to hold Sum against it: all bytes
// in one list, numbers of two bytes, what is too high added at the end.
func plain(parts ...[]byte) uint16 {
	all := bytes.Join(parts, nil)
	if len(all)%2 == 1 {
		all = append(all, 0)
	}
	n := 0
	for i := 0; i < len(all); i += 2 {
		n += int(all[i])*256 + int(all[i+1])
	}
	for n > 65535 {
		n = n%65536 + n/65536
	}
	return uint16(65535 - n)
}

// noise is bytes that are the same in each run and look like no row.
func noise(n int, seed uint32) []byte {
	b := make([]byte, n)
	for i := range b {
		seed = seed*1664525 + 1013904223
		b[i] = byte(seed >> 24)
	}
	return b
}

func TestSumOfParts(t *testing.T) {
	for _, c := range []struct {
		name  string
		parts [][]byte
		want  uint16
	}{
		{"the chapter's example", [][]byte{{0x00, 0x01, 0xF2, 0x03, 0xF4, 0xF5, 0xF6, 0xF7}}, 0x220D},
		{"the example in parts", [][]byte{{0x00, 0x01}, {0xF2, 0x03}, {0xF4, 0xF5, 0xF6, 0xF7}}, 0x220D},
		{"parts that end in the middle of pairs", [][]byte{{0x00}, {0x01, 0xF2}, {0x03, 0xF4, 0xF5}, {0xF6, 0xF7}}, 0x220D},
		{"empty parts between", [][]byte{nil, {0x00}, {}, nil, {0x01, 0xF2, 0x03, 0xF4, 0xF5, 0xF6}, {}, {0xF7}, nil}, 0x220D},
		{"no parts", nil, 0xFFFF},
		{"a part that is nil", [][]byte{nil}, 0xFFFF},
		{"a part that is empty", [][]byte{{}}, 0xFFFF},
		{"one nought", [][]byte{{0}}, 0xFFFF},
		{"nothing but noughts", [][]byte{{0, 0, 0}, {0, 0}}, 0xFFFF},
		{"one byte", [][]byte{{0x12}}, 0xEDFF},
		{"an odd number of bytes", [][]byte{{0x12, 0x34, 0x56}}, 0x97CB},
		{"an odd number in all", [][]byte{{0x12, 0x34}, {0x56}}, 0x97CB},
		{"two odd parts", [][]byte{{0x12}, {0x34}}, 0xEDCB},
		{"three odd parts", [][]byte{{0x12}, {0x34}, {0x56}}, 0x97CB},
		{"FFFF is not above FFFF", [][]byte{{0xFF, 0xFF}}, 0x0000},
		{"just above FFFF", [][]byte{{0xFF, 0xFF, 0x00, 0x01}}, 0xFFFE},
		{"FFFF twice", [][]byte{{0xFF, 0xFF, 0xFF, 0xFF}}, 0x0000},
		{"above FFFF twice", [][]byte{{0xFF, 0xFF, 0xFF, 0xFF, 0x00, 0x01}}, 0xFFFE},
		{"a header of IPv4", [][]byte{{0x45, 0, 0, 0x73, 0, 0, 0x40, 0, 0x40, 0x11, 0, 0, 0xC0, 0xA8, 0, 1, 0xC0, 0xA8, 0, 0xC7}}, 0xB861},
	} {
		if got := Sum(c.parts...); got != c.want {
			t.Errorf("%s: Sum is %04X, not %04X", c.name, got, c.want)
		}
		if got := Valid(c.parts...); got != (c.want == 0) {
			t.Errorf("%s: Valid is %v, Sum %04X", c.name, got, c.want)
		}
	}
}

// 1FFFE is folded to FFFF, but 1FFFF to 10000, which is above FFFF once more.
func TestSumIsFoldedAgain(t *testing.T) {
	for _, c := range []struct {
		words, last int
		want        uint16
	}{
		{0x10000, 0x0000, 0x0000}, // FFFF0000: FFFF
		{0x10000, 0x0001, 0xFFFE}, // FFFF0001: 10000: 1
		{0x10000, 0xFFFF, 0x0000}, // FFFFFFFF: 1FFFE: FFFF
		{0x10001, 0x0001, 0xFFFE}, // 100000000: 10000 (above 32 bits): 1
		{0x10001, 0x0002, 0xFFFD}, // 100000001: 10001: 2
		{0x20003, 0x1234, 0xEDCB},
	} {
		b := bytes.Repeat([]byte{0xFF, 0xFF}, c.words)
		last := []byte{byte(c.last >> 8), byte(c.last)}
		if got := Sum(b, last); got != c.want {
			t.Errorf("%X times FFFF and %04X: %04X, not %04X", c.words, c.last, got, c.want)
		}
	}
}

func TestSumIsWhatTheWordsSay(t *testing.T) {
	for n := range 70 {
		all := noise(n, uint32(n))
		want := plain(all)
		if got := Sum(all); got != want {
			t.Errorf("%d bytes: %04X, not %04X", n, got, want)
		}
		for i := range n + 1 {
			for j := i; j <= n; j++ {
				if got := Sum(all[:i], all[i:j], all[j:]); got != want {
					t.Fatalf("%d bytes, cut at %d and %d: %04X, not %04X", n, i, j, got, want)
				}
			}
		}
	}
}

func TestValidOfBytesWithTheirSumBehind(t *testing.T) {
	for n := 0; n <= 64; n += 2 {
		b := noise(n, uint32(1000+n))
		s := Sum(b)
		behind := []byte{byte(s >> 8), byte(s)}
		if !Valid(b, behind) || !Valid(b, behind[:1], behind[1:]) || !Valid(append(bytes.Clone(b), behind...)) {
			t.Errorf("%d bytes with %04X behind are not valid", n, s)
		}
		behind[1] ^= 1
		if Valid(b, behind) {
			t.Errorf("%d bytes with another sum behind are valid", n)
		}
	}
}

func TestValidOfWrongBytes(t *testing.T) {
	for _, parts := range [][][]byte{nil, {nil}, {{}}, {{0}}, {{0, 0}}, {{0xFF}}, {{0, 0xFF}}, {{0xFF, 0xFE}}, {{0xFF}, {0xFE}}} {
		if Valid(parts...) {
			t.Errorf("%X is valid", parts)
		}
	}
}

func TestSumLeavesAndKeepsNothing(t *testing.T) {
	first, second := []byte{1, 2, 3}, []byte{4, 5, 6, 7}
	roomy := first[:2:3]
	parts := [][]byte{roomy, second}
	s := Sum(parts...)
	Valid(parts...)
	if !bytes.Equal(first, []byte{1, 2, 3}) || !bytes.Equal(second, []byte{4, 5, 6, 7}) {
		t.Errorf("changed: %v %v", first, second)
	}
	if len(parts) != 2 || &parts[0][0] != &first[0] || &parts[1][0] != &second[0] {
		t.Errorf("the list of parts is changed: %v", parts)
	}
	clear(first)
	if got, want := Sum(parts...), plain(parts...); got != want || got == s {
		t.Errorf("after bytes were written over: %04X, not %04X", got, want)
	}
}

func TestUpdate(t *testing.T) {
	for _, c := range []struct {
		sum, old, new, want uint16
	}{
		{0xDD2F, 0x5555, 0x3285, 0x0000}, // RFC 1624, section 4
		{0x0000, 0x0000, 0x0000, 0x0000}, // FFFF + FFFF: 1FFFE: FFFF
		{0x0000, 0x0000, 0x0001, 0xFFFE}, // 1FFFF: 10000, above FFFF once more
		{0x0000, 0x0000, 0xFFFF, 0x0000}, // 2FFFD: FFFF
		{0xFFFF, 0xFFFF, 0x0000, 0xFFFF}, // nothing is added up
		{0xFFFF, 0xFFFF, 0xFFFF, 0x0000}, // FFFF is not above FFFF
		{0xFFFF, 0x0000, 0x0000, 0x0000},
		{0x1234, 0xABCD, 0xABCD, 0x1234},
		{0x220D, 0x0001, 0x0002, 0x220C},
		{0x0001, 0x0000, 0x0001, 0x0000}, // FFFE + FFFF + 1: 1FFFE: FFFF
	} {
		if got := Update(c.sum, c.old, c.new); got != c.want {
			t.Errorf("Update(%04X, %04X, %04X) is %04X, not %04X", c.sum, c.old, c.new, got, c.want)
		}
	}
}

func TestUpdateIsTheSumOfWhatWasUpdated(t *testing.T) {
	edges := []uint16{0, 1, 2, 0x7FFF, 0x8000, 0xABCD, 0xFFFE, 0xFFFF}
	for _, rest := range [][]byte{{0x45, 0x11}, {0xFF, 0xFF}, {0xFF, 0xFE, 0x00, 0x03}, noise(18, 5)} {
		for _, old := range edges {
			for _, new := range edges {
				was := []byte{byte(old >> 8), byte(old)}
				is := []byte{byte(new >> 8), byte(new)}
				if got, want := Update(Sum(was, rest), old, new), Sum(is, rest); got != want {
					t.Errorf("%X: %04X to %04X: %04X, not %04X", rest, old, new, got, want)
				}
			}
		}
	}
}

// The sum of noughts is FFFF, but RFC 1624's way comes out at 0.
func TestUpdateToNothingButNoughts(t *testing.T) {
	if got := Update(Sum([]byte{0x12, 0x34}), 0x1234, 0); got != 0 {
		t.Errorf("%04X", got)
	}
}

func TestPseudo(t *testing.T) {
	const src, dst = api.IP(0x0A0B0C0D), api.IP(0xC0A80102)
	for _, c := range []struct {
		proto     uint8
		n         int
		high, low byte
	}{
		{api.UDP, 8, 0, 8},
		{api.TCP, 0x1234, 0x12, 0x34},
		{0, 0, 0, 0},
		{255, 0xFFFF, 0xFF, 0xFF},
		{api.UDP, 0x10000, 0, 0},
		{api.UDP, 0x12345, 0x23, 0x45},
		{api.UDP, -1, 0xFF, 0xFF},
		{api.UDP, -2, 0xFF, 0xFE},
		{api.UDP, -0x10000, 0, 0},
		{api.UDP, -0x1FF, 0xFE, 0x01},
		{api.UDP, math.MaxInt, 0xFF, 0xFF},
		{api.UDP, math.MinInt, 0, 0},
	} {
		want := []byte{0x0A, 0x0B, 0x0C, 0x0D, 0xC0, 0xA8, 0x01, 0x02, 0, c.proto, c.high, c.low}
		if got := Pseudo(src, dst, c.proto, c.n); !bytes.Equal(got, want) {
			t.Errorf("proto %d, n %d: % X, not % X", c.proto, c.n, got, want)
		}
	}
	if got := Pseudo(0, 0xFFFFFFFF, 0, 0); !bytes.Equal(got, []byte{0, 0, 0, 0, 255, 255, 255, 255, 0, 0, 0, 0}) {
		t.Errorf("% X", got)
	}
}

func TestPseudoIsTheCallers(t *testing.T) {
	first := Pseudo(1, 2, 3, 4)
	want := bytes.Clone(first)
	for i := range first {
		first[i] = 0xEE
	}
	if got := Pseudo(1, 2, 3, 4); !bytes.Equal(got, want) {
		t.Errorf("% X, not % X", got, want)
	}
}

// A datagram of UDP from 192.168.0.31 to 192.168.0.30, with its sum in it.
func TestPseudoAheadOfADatagram(t *testing.T) {
	datagram := []byte{0x00, 0x14, 0x00, 0x0A, 0x00, 0x0A, 0x35, 0xC5, 'H', 'i'}
	ahead := Pseudo(0xC0A8001F, 0xC0A8001E, api.UDP, len(datagram))
	if !Valid(ahead, datagram) {
		t.Errorf("not valid: %04X", Sum(ahead, datagram))
	}
	if Valid(Pseudo(0xC0A8001F, 0xC0A8001E, api.TCP, len(datagram)), datagram) {
		t.Error("valid of another protocol")
	}
}
