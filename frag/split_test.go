package frag

import (
	"bytes"
	"math"
	"testing"

	"underpass/api"
	"underpass/ipv4"
)

func TestSplitOfTheChaptersExample(t *testing.T) {
	p := packet(1, 100)
	wantSplit(t, "the example", p, 68, piece(p, 0, 48, true), piece(p, 48, 96, true), piece(p, 96, 100, false))
}

// The fields of each part are told one by one here.
func TestSplitTellsEachField(t *testing.T) {
	b := filling(1, 50)
	p := ipv4.Packet{TOS: 1, ID: 2, TTL: 3, Proto: 4, Src: 5, Dst: 6, B: b}
	wantSplit(t, "all fields", p, 68,
		ipv4.Packet{TOS: 1, ID: 2, MF: true, TTL: 3, Proto: 4, Src: 5, Dst: 6, B: b[:48]},
		ipv4.Packet{TOS: 1, ID: 2, Off: 48, TTL: 3, Proto: 4, Src: 5, Dst: 6, B: b[48:]})
	b = filling(1, 56)
	p = ipv4.Packet{TOS: 0xFF, ID: 0xFFFF, MF: true, Off: 800, TTL: 0xFF, Proto: 0xFF, Src: 0xFFFFFFFF, Dst: 0x80000000, B: b}
	wantSplit(t, "the highest numbers", p, 75,
		ipv4.Packet{TOS: 0xFF, ID: 0xFFFF, MF: true, Off: 800, TTL: 0xFF, Proto: 0xFF, Src: 0xFFFFFFFF, Dst: 0x80000000, B: b[:48]},
		ipv4.Packet{TOS: 0xFF, ID: 0xFFFF, MF: true, Off: 848, TTL: 0xFF, Proto: 0xFF, Src: 0xFFFFFFFF, Dst: 0x80000000, B: b[48:]})
}

// An mtu below 68 is told ahead of all else.
func TestSplitOfAnMTUThatIsTooSmall(t *testing.T) {
	dont := packet(1, 100)
	dont.DF = true
	for _, mtu := range []int{67, 66, 60, 28, 20, 19, 1, 0, -1, -68, math.MinInt32, math.MinInt, math.MinInt + 19} {
		for _, size := range []int{0, 1, 47, 48, 100, 65515, 65516} {
			wantNoSplit(t, "too small an mtu", packet(1, size), mtu, of(api.ErrArg))
		}
		wantNoSplit(t, "too small an mtu, and DF", dont, mtu, of(api.ErrArg))
		for i, f := range faults {
			wantNoSplit(t, "too small an mtu, and "+f.name, faulty(1, i), mtu, of(api.ErrArg))
		}
	}
}

// A packet that is not right is told ahead of its size, and of DF.
func TestSplitOfAPacketThatIsNotRight(t *testing.T) {
	for i, f := range faults {
		for _, mtu := range []int{68, 69, 1500, 65535, 65536, 1 << 20, math.MaxInt} {
			p := faulty(1, i)
			wantNoSplit(t, f.name, p, mtu, ofRight(f.code))
			p.DF = true
			wantNoSplit(t, f.name+", and DF", p, mtu, ofRight(f.code))
		}
	}
}

func TestSplitOfMTUBytesAndOfOneMore(t *testing.T) {
	for _, mtu := range []int{68, 69, 70, 75, 76, 77, 100, 576, 1499, 1500, 1501, 9000, 65533, 65534} {
		p := packet(1, mtu-20)
		wantSplit(t, "as many as the mtu", p, mtu, p)
		p.DF = true
		wantSplit(t, "as many as the mtu, and DF", p, mtu, p)
		p = packet(1, mtu-19)
		size := (mtu - 20) / 8 * 8
		wantSplit(t, "one more", p, mtu, piece(p, 0, size, true), piece(p, size, len(p.B), false))
		p.DF = true
		wantNoSplit(t, "one more, and DF", p, mtu, of(api.ErrBig))
	}
}

func TestSplitOfWhatFits(t *testing.T) {
	for _, size := range []int{0, 1, 7, 8, 9, 47, 48} {
		for _, mtu := range []int{68, 69, 1500, 65535, 1 << 20, math.MaxInt} {
			p := packet(1, size)
			wantSplit(t, "a packet alone", p, mtu, p)
			p.Off = 16
			wantSplit(t, "a last part alone", p, mtu, p)
			p.DF = true
			wantSplit(t, "a last part alone, and DF", p, mtu, p)
			if size%8 == 0 && size > 0 {
				p.MF = true
				wantSplit(t, "a part alone", p, mtu, p)
			}
		}
	}
	wantSplit(t, "the zero packet", ipv4.Packet{}, 68, ipv4.Packet{})
	p := packet(1, 65515)
	wantSplit(t, "the largest packet", p, 65535, p)
}

// A part that may not be split is refused as any packet is, and one whose bytes
// fit is not, whatever its Off is.
func TestSplitOfPartsWithDF(t *testing.T) {
	p := packet(1, 56)
	p.DF, p.Off = true, 8
	wantNoSplit(t, "a last part", p, 75, of(api.ErrBig))
	wantSplit(t, "a last part", p, 76, p)
	p.MF = true
	wantNoSplit(t, "a part", p, 75, of(api.ErrBig))
	wantSplit(t, "a part", p, 76, p)
	p.Off = 65448
	wantSplit(t, "a part that is far behind", p, 76, p)
}

// How many bytes parts have is a multiple of 8, whatever the mtu leaves.
func TestSplitByEachMTU(t *testing.T) {
	for mtu := 68; mtu <= 168; mtu++ {
		size := (mtu - 20) / 8 * 8
		for _, n := range []int{mtu - 19, 2*size - 1, 2 * size, 2*size + 1, 2*size + 7, 3*size - 1, 3 * size, 3*size + 1, 1000} {
			if n+20 <= mtu {
				continue
			}
			p := packet(mtu, n)
			var want []ipv4.Packet
			at := 0
			for n-at > size {
				want = append(want, piece(p, at, at+size, true))
				at += size
			}
			want = append(want, piece(p, at, n, false))
			wantSplit(t, "parts", p, mtu, want...)
		}
	}
}

// Such parts are told one by one here.
func TestSplitByMTUsThatLeaveNoMultipleOf8(t *testing.T) {
	p := packet(1, 112)
	for mtu := 68; mtu <= 75; mtu++ {
		wantSplit(t, "parts of 48", p, mtu, piece(p, 0, 48, true), piece(p, 48, 96, true), piece(p, 96, 112, false))
	}
	for mtu := 76; mtu <= 83; mtu++ {
		wantSplit(t, "parts of 56", p, mtu, piece(p, 0, 56, true), piece(p, 56, 112, false))
	}
	for mtu := 84; mtu <= 91; mtu++ {
		wantSplit(t, "parts of 64", p, mtu, piece(p, 0, 64, true), piece(p, 64, 112, false))
	}
}

func TestSplitLastParts(t *testing.T) {
	p := packet(1, 97)
	wantSplit(t, "of one byte", p, 68, piece(p, 0, 48, true), piece(p, 48, 96, true), piece(p, 96, 97, false))
	p = packet(1, 96)
	wantSplit(t, "of as many as the others", p, 68, piece(p, 0, 48, true), piece(p, 48, 96, false))
	p = packet(1, 95)
	wantSplit(t, "of one fewer", p, 68, piece(p, 0, 48, true), piece(p, 48, 95, false))
	p = packet(1, 49)
	wantSplit(t, "of one byte, behind one part", p, 68, piece(p, 0, 48, true), piece(p, 48, 49, false))
	p = packet(1, 55)
	wantSplit(t, "of one byte fewer than 8", p, 70, piece(p, 0, 48, true), piece(p, 48, 55, false))
	// What is left behind 48 bytes would fit, but is no multiple of 8.
	p = packet(1, 103)
	wantSplit(t, "behind two parts", p, 75, piece(p, 0, 48, true), piece(p, 48, 96, true), piece(p, 96, 103, false))
}

func TestSplitOfAPart(t *testing.T) {
	for _, off := range []int{0, 8, 48, 800, 65000, 65512 - 112} {
		for _, more := range []bool{false, true} {
			p := packet(1, 112)
			p.Off, p.MF = off, more
			one, two, three := piece(p, 0, 48, true), piece(p, 48, 96, true), piece(p, 96, 112, more)
			one.Off, two.Off, three.Off = off, off+48, off+96
			wantSplit(t, "a part", p, 68, one, two, three)
		}
	}
	p := packet(1, 67)
	p.Off = 65448
	one, two := piece(p, 0, 48, true), piece(p, 48, 67, false)
	one.Off, two.Off = 65448, 65496
	wantSplit(t, "a last part that ends as late as may be", p, 68, one, two)
	p = packet(1, 56)
	p.Off, p.MF = 65456, true
	one, two = piece(p, 0, 48, true), piece(p, 48, 56, true)
	one.Off, two.Off = 65456, 65504
	wantSplit(t, "a part that ends as late as may be", p, 68, one, two)
}

func TestSplitOfTheLargestPacket(t *testing.T) {
	p := packet(1, 65515)
	for _, mtu := range []int{68, 69, 1500, 9000, 65531, 65532, 65534} {
		parts, err := Split(p, mtu)
		if err != nil {
			t.Fatal(mtu, err)
		}
		var b []byte
		for i, q := range parts {
			if q.Off != len(b) || q.MF != (i < len(parts)-1) || len(q.B)+20 > mtu || ipv4.Right(q) != nil {
				t.Fatalf("mtu %d, part %d: %s", mtu, i, short(q))
			}
			b = append(b, q.B...)
		}
		if !bytes.Equal(b, p.B) {
			t.Fatalf("mtu %d: other bytes", mtu)
		}
	}
}

// What is told shares nothing with what was handed in, nor parts with each
// other.
func TestSplitSharesNothing(t *testing.T) {
	for _, size := range []int{0, 1, 48, 49, 96, 97, 200} {
		p := packet(1, size)
		room := append(bytes.Clone(p.B), 0xAA, 0xAA)
		p.B = room[:size]
		parts, err := Split(p, 68)
		if err != nil || !bytes.Equal(room, append(filling(1, size), 0xAA, 0xAA)) {
			t.Fatalf("%d bytes: Split wrote over them, %v", size, err)
		}
		clear(room)
		var b []byte
		for i := range parts {
			b = append(b, parts[i].B...)
			clear(append(parts[i].B, 9, 9, 9, 9, 9, 9, 9, 9))
			clear(parts[i].B)
		}
		if !bytes.Equal(b, filling(1, size)) {
			t.Fatalf("%d bytes: parts share theirs", size)
		}
	}
}

func TestSplitLeavesWhatItRefuses(t *testing.T) {
	p := packet(1, 100)
	p.DF = true
	wantNoSplit(t, "DF", p, 68, of(api.ErrBig))
	wantNoSplit(t, "too small an mtu", p, 67, of(api.ErrArg))
	p.Off = 3
	wantNoSplit(t, "not right", p, 68, ofRight(api.ErrArg))
	if !bytes.Equal(p.B, filling(1, 100)) {
		t.Fatal("it was written over")
	}
}

func TestSplitHasTheSameAnswersAgain(t *testing.T) {
	p := packet(1, 500)
	parts, _ := Split(p, 100)
	for range 5 {
		wantSplit(t, "again", p, 100, parts...)
	}
}
