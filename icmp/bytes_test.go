package icmp

import (
	"bytes"
	"testing"
)

func TestBytesOfEachSmallSize(t *testing.T) {
	for n := range 300 {
		m := ordinary(bytes.Repeat([]byte{0x81, 2, 3}, n)[:n]...)
		wantBytes(t, "some bytes", m, told(m))
	}
}

func TestBytesOfNilAndOfNone(t *testing.T) {
	for _, none := range [][]byte{nil, {}, make([]byte, 0, 9)} {
		wantBytes(t, "no bytes", ordinary(none...), []byte{0x11, 0x12, 0xAA, 0xA7, 0x21, 0x22, 0x23, 0x24})
	}
}

// Bytes behind the end, in the room of B, are none of it.
func TestBytesOfAnOddNumberWithMoreInItsRoom(t *testing.T) {
	m := ordinary([]byte{1, 2, 3, 0xFF}[:3]...)
	wantBytes(t, "three bytes", m, []byte{0x11, 0x12, 0xA6, 0xA5, 0x21, 0x22, 0x23, 0x24, 1, 2, 3})
}

// No word of G1 says how many bytes a message has at most.
func TestBytesOfManyBytes(t *testing.T) {
	for _, n := range []int{65507, 65508, 65527, 65528, 131071, 131072, 1000001} {
		m := ordinary(bytes.Repeat([]byte{0xFF, 0xA5}, n)[:n]...)
		wantBytes(t, "many bytes", m, told(m))
		wantMessage(t, "many bytes", told(m), m)
	}
}

// Each sum but FFFF comes of some message that has anything but noughts, and is
// told as it is, 0 too.
func TestBytesOfEachSum(t *testing.T) {
	seen := map[int]bool{}
	for n := range 1 << 16 {
		b := Message{Type: 7, Rest: uint32(n)}.Bytes()
		sum := int(b[2])<<8 | int(b[3])
		if want := 65535 - (7<<8+n-1)%65535 - 1; sum != want {
			t.Fatalf("% X: a sum of %04X, want %04X", b, sum, want)
		}
		seen[sum] = true
	}
	if len(seen) != 65535 || seen[65535] {
		t.Fatalf("%d sums; FFFF is one: %v", len(seen), seen[65535])
	}
}
