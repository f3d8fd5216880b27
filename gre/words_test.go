package gre

import (
	"bytes"
	"testing"

	"underpass/samples"
)

// The plain calls do as the words of M1 say, byte by byte.
func plainSum(b []byte) uint16 {
	total := 0
	for i, x := range b {
		if i%2 == 0 {
			total += 256 * int(x)
		} else {
			total += int(x)
		}
	}
	for total > 65535 {
		total -= 65535 // one of 65536 less is one more
	}
	return uint16(65535 - total)
}

// summed is the same packet with the sum that it should have.
func summed(b []byte) []byte {
	b = bytes.Clone(b)
	b[4], b[5] = 0, 0
	s := plainSum(b)
	b[4], b[5] = byte(s/256), byte(s%256)
	return b
}

func plainNumber(b []byte) uint32 {
	return uint32(b[0])*16777216 + uint32(b[1])*65536 + uint32(b[2])*256 + uint32(b[3])
}

func plainBytes(x uint32) []byte {
	return []byte{byte(x / 16777216), byte(x / 65536 % 256), byte(x / 256 % 256), byte(x % 256)}
}

func plainEncap(h Header, frame []byte) ([]byte, string) {
	switch {
	case len(frame) < 14:
		return nil, "gre: error 2"
	case len(frame) > 9000:
		return nil, "gre: error 7"
	}
	b := []byte{0, 0, 101, 88}
	if h.Sum {
		b[0] += 128
		b = append(b, 0, 0, 0, 0)
	}
	if h.Keyed {
		b[0] += 32
		b = append(b, plainBytes(h.Key)...)
	}
	if h.Seqed {
		b[0] += 16
		b = append(b, plainBytes(h.Seq)...)
	}
	b = append(b, frame...)
	if h.Sum {
		b = summed(b)
	}
	return b, ""
}

func plainDecap(b []byte) (h Header, frame []byte, wrong string) {
	if len(b) < 4 {
		return Header{}, nil, "gre: octets: error 2"
	}
	if b[1] != 0 || b[0]%16 != 0 || b[0]/64%2 == 1 {
		return Header{}, nil, "gre: error 3"
	}
	if b[2] != 101 || b[3] != 88 {
		return Header{}, nil, "gre: error 12"
	}
	size := 4
	for _, bit := range []byte{128, 32, 16} {
		if b[0]/bit%2 == 1 {
			size += 4
		}
	}
	if len(b) < size {
		return Header{}, nil, "gre: octets: error 2"
	}
	rest := b[4:]
	if h.Sum = b[0] >= 128; h.Sum {
		rest = rest[4:]
	}
	if h.Keyed = b[0]/32%2 == 1; h.Keyed {
		h.Key, rest = plainNumber(rest), rest[4:]
	}
	if h.Seqed = b[0]/16%2 == 1; h.Seqed {
		h.Seq, rest = plainNumber(rest), rest[4:]
	}
	switch {
	case h.Sum && plainSum(b) != 0:
		return Header{}, nil, "gre: error 4"
	case len(rest) < 14:
		return Header{}, nil, "gre: error 2"
	case len(rest) > 9000:
		return Header{}, nil, "gre: error 7"
	}
	return h, rest, ""
}

func wantEncapAsWordsSay(t *testing.T, h Header, frame []byte) {
	t.Helper()
	want, wrong := plainEncap(h, frame)
	if got, err := Encap(h, frame); !bytes.Equal(got, want) || samples.Text(err) != wrong {
		t.Fatalf("Encap of %+v, %d bytes, %.40X: got %.50X, %v, want %.50X, %s", h, len(frame), frame, got, err, want, wrong)
	}
}

func wantDecapAsWordsSay(t *testing.T, b []byte) {
	t.Helper()
	h, frame, wrong := plainDecap(b)
	g, got, err := Decap(b)
	if g != h || !bytes.Equal(got, frame) || samples.Text(err) != wrong {
		t.Fatalf("Decap of %d bytes, %.50X: got %+v, %.40X, %v, want %+v, %.40X, %s", len(b), b, g, got, err, h, frame, wrong)
	}
}

// someHeader may also have numbers beside flags that are false.
func someHeader(n *samples.Noise) Header {
	some := func() uint32 { return uint32(n.Below(1<<31))<<1>>n.Below(32) | uint32(n.Below(2)) }
	return Header{Sum: n.Below(2) == 0, Keyed: n.Below(2) == 0, Key: some(), Seqed: n.Below(2) == 0, Seq: some()}
}

func TestEncapDoesAsTheWordsSay(t *testing.T) {
	n := samples.Noise(21)
	for range 10000 {
		h, frame := someHeader(&n), n.Bytes(n.Of(0, 13, 14, 15, 60, 61, n.Below(40)))
		wantEncapAsWordsSay(t, h, frame)
		wantEncapAsWordsSay(t, h, frame)
	}
	for range 200 {
		wantEncapAsWordsSay(t, someHeader(&n), n.Bytes(n.Of(8999, 9000, 9001)))
	}
}

// Most of what is handed in is what Encap made, with some bytes that are other
// ones, and cut somewhere; and of most of that the sum is made right again.
func TestDecapDoesAsTheWordsSay(t *testing.T) {
	n := samples.Noise(22)
	for range 30000 {
		b, _ := plainEncap(someHeader(&n), n.Bytes(14+n.Below(20)))
		for range n.Of(0, 0, 1, 2) {
			b[n.Below(min(len(b), n.Of(1, 2, 4, 16, 60)))] ^= byte(1 << n.Below(8))
		}
		if n.Below(3) == 0 {
			b = b[:n.Below(len(b)+1)]
		}
		if len(b) >= 6 && b[0] >= 128 && n.Below(3) > 0 {
			b = summed(b)
		}
		wantDecapAsWordsSay(t, b)
		wantDecapAsWordsSay(t, b)
	}
	for range 200 {
		b, _ := plainEncap(someHeader(&n), n.Bytes(9000))
		if b = append(b, 0)[:len(b)-n.Below(3)+1]; b[0] >= 128 && n.Below(3) > 0 {
			b = summed(b)
		}
		wantDecapAsWordsSay(t, b)
	}
}

// No call has to do with those before it, whatever these were handed.
func TestCallsHaveNothingToDoWithEachOther(t *testing.T) {
	for _, c := range packets {
		_, _ = Encap(Header{Sum: true, Keyed: true, Key: 9}, samples.Frame(9001))
		_, _, _ = Decap([]byte{0x80, 0, 0x65, 0x58, 1})
		_, _, _ = Decap(make([]byte, 60))
		wantPacket(t, c.name, c.h, c.frame, told(c.head, c.frame))
		wantFrame(t, c.name, told(c.head, c.frame), c.h, c.frame)
	}
}

func FuzzDecap(f *testing.F) {
	for _, c := range packets {
		f.Add(told(c.head, c.frame))
		f.Add(c.head)
		f.Add(told(c.head, c.frame[:13]))
	}
	for n := range 9 {
		f.Add(bytes.Repeat([]byte{0x80}, n))
	}
	f.Fuzz(func(t *testing.T, b []byte) {
		wantDecapAsWordsSay(t, b)
		if len(b) >= 6 && b[0] >= 128 {
			b = summed(b)
			wantDecapAsWordsSay(t, b)
		}
		if h, frame, err := Decap(b); err == nil {
			wantEncapAsWordsSay(t, h, frame)
		}
	})
}
