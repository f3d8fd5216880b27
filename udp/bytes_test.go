package udp

import (
	"bytes"
	"testing"

	"underpass/api"
)

func TestBytesOfEachSmallSize(t *testing.T) {
	for n := range 300 {
		for _, plain := range []bool{false, true} {
			d := ordinary(bytes.Repeat([]byte{0x81, 2, 3}, n)[:n]...)
			d.Plain = plain
			wantBytes(t, "some bytes", d, one, two, told(d, one, two))
		}
	}
}

func TestBytesOfNilAndOfNone(t *testing.T) {
	for _, none := range [][]byte{nil, {}, make([]byte, 0, 9)} {
		d := ordinary(none...)
		wantBytes(t, "no bytes", d, one, two, told(ordinary(), one, two))
	}
}

// Bytes behind the end, in the room of B, are none of it.
func TestBytesOfAnOddNumberWithMoreInItsRoom(t *testing.T) {
	d := ordinary([]byte{1, 2, 3, 0xFF}[:3]...)
	wantBytes(t, "three bytes", d, one, two, told(ordinary(1, 2, 3), one, two))
}

func TestBytesOfTheLargestDatagramAndOfLargerOnes(t *testing.T) {
	for _, plain := range []bool{false, true} {
		for n := 65500; n <= 65507; n++ {
			d := ordinary(bytes.Repeat([]byte{0x33}, n)...)
			d.Plain = plain
			wantBytes(t, "65515 bytes in all, or fewer", d, one, two, told(d, one, two))
		}
		for _, n := range []int{65508, 65509, 65527, 65528, 65535, 65536, 65544, 131072, 1000000} {
			d := ordinary(bytes.Repeat([]byte{0x33}, n)...)
			d.Plain = plain
			b, err := d.Bytes(one, two)
			wantError(t, "more than 65515 bytes in all", err, api.ErrBig)
			if len(b) != 0 {
				t.Fatalf("%d bytes beside the error", len(b))
			}
		}
	}
}

// The addresses are no bytes of a datagram, but those of its sum.
func TestBytesBetweenOtherAddresses(t *testing.T) {
	d := ordinary(1, 2, 3)
	for bit := range 32 {
		src, dst := one^1<<bit, two^1<<bit
		wantBytes(t, "from another address", d, src, two, told(d, src, two))
		wantBytes(t, "to another address", d, one, dst, told(d, one, dst))
		first, _ := d.Bytes(one, two)
		second, _ := d.Bytes(src, two)
		if bytes.Equal(first, second) {
			t.Fatalf("bit %d of an address does not matter", bit)
		}
		plain := Datagram{d.Src, d.Dst, true, d.B}
		wantBytes(t, "a plain one", plain, src, dst, told(plain, one, two))
	}
}

// Each sum but 0 comes of some datagram, and is told as it is; 0 as FFFF.
func TestBytesOfEachSum(t *testing.T) {
	seen := map[int]bool{}
	for n := range 1 << 16 {
		d := Datagram{Src: uint16(n), Dst: 2, B: []byte{7}}
		b, err := d.Bytes(one, two)
		if err != nil {
			t.Fatalf("%+v: %v", d, err)
		}
		sum := int(b[6])<<8 | int(b[7])
		if sum != right(b, one, two) {
			t.Fatalf("%+v: a sum of %04X, want %04X", d, sum, right(b, one, two))
		}
		seen[sum] = true
	}
	if len(seen) != 65535 || seen[0] {
		t.Fatalf("%d sums; 0 is one: %v", len(seen), seen[0])
	}
}
