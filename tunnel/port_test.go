package tunnel

import (
	"bytes"
	"slices"
	"testing"

	"underpass/samples"
)

// plainPort does as N2's words say, byte by byte.
func plainPort(frame []byte) uint16 {
	var row []byte
	for i, x := range frame {
		ip := len(frame) > 33 && frame[12] == 8 && frame[13] == 0
		if i < 12 || ip && (i == 23 || i > 25 && i < 34) {
			row = append(row, x)
		}
	}
	n := uint64(2166136261)
	for _, x := range row {
		n = (n ^ uint64(x)) * 16777619 % (1 << 32)
	}
	return uint16(49152 + n%16384)
}

func wantPort(t *testing.T, what string, frame []byte, port uint16) {
	t.Helper()
	before := bytes.Clone(frame)
	if got := Port(frame); got != port {
		t.Fatalf("%s: Port of %d bytes, %X: got %d, want %d", what, len(frame), frame, got, port)
	}
	if !bytes.Equal(frame, before) {
		t.Fatalf("%s: Port has changed what it was handed", what)
	}
}

func TestPortOfFrames(t *testing.T) {
	for _, c := range []struct {
		name  string
		frame []byte
		port  uint16
	}{
		{"nil", nil, 56773},
		{"no bytes", []byte{}, 56773},
		{"one byte", []byte("a"), 59692},
		{"six bytes", []byte("foobar"), 63848},
		{"one byte of a frame", samples.Frame(1), 59164},
		{"12 bytes", samples.Frame(12), 64685},
		{"14 bytes", samples.Frame(14), 64685},
		{"60 bytes", samples.Frame(60), 64685},
		{"noughts", make([]byte, 60), 58037},
		{"ARP to everybody", append([]byte{0xFF, 0xFF, 0xFF, 0xFF, 0xFF, 0xFF, 2, 0, 0, 0, 0, 1, 8, 6}, make([]byte, 46)...), 56178},
		{"IPv4", echo, 63478},
		{"IPv4 in 34 bytes", echo[:34], 63478},
		{"IPv4 in 33 bytes", echo[:33], 60268},
		{"twelve bytes of IPv4", echo[:12], 60268},
	} {
		wantPort(t, c.name, c.frame, c.port)
		wantPort(t, c.name+", by the words", c.frame, plainPort(c.frame))
	}
}

// ipv4 is a frame of so many bytes that is of IPv4 as far as its type goes.
func ipv4(size int) []byte {
	b := samples.Frame(max(size, 14))
	b[12], b[13] = 8, 0
	return b[:size]
}

// Of a frame with fewer than 34 bytes the first twelve are all that counts, and
// of those behind 34 none does; with more in the room behind its end or not.
func TestPortOfEachSize(t *testing.T) {
	room := ipv4(200)
	twelve, all := plainPort(room[:12]), plainPort(room[:34])
	if twelve == all {
		t.Fatal("the ports are the same")
	}
	for n := range 200 {
		for _, frame := range [][]byte{room[:n], bytes.Clone(room[:n])[:n:n]} {
			switch {
			case n < 12:
				wantPort(t, "fewer than twelve bytes", frame, plainPort(frame))
			case n < 34:
				wantPort(t, "fewer than 34 bytes", frame, twelve)
			default:
				wantPort(t, "34 bytes or more", frame, all)
			}
		}
	}
	for n := range 12 {
		if Port(room[:n]) == Port(room[:n+1]) {
			t.Fatalf("%d bytes have the port of one more", n)
		}
	}
}

// wantCounted asks that each of these bytes, turned, makes another port, and no
// other byte does. (The port has the lowest bits of the flow's number, which
// another byte always makes other ones.)
func wantCounted(t *testing.T, what string, frame []byte, counted func(i int) bool) {
	t.Helper()
	port := Port(frame)
	for i := range frame {
		for _, turn := range []byte{1, 0x80, 0xFF, 0x55} {
			frame[i] ^= turn
			if got := Port(frame); (got != port) != counted(i) {
				t.Fatalf("%s: byte %d of %d turned by %02X: got %d behind %d", what, i, len(frame), turn, got, port)
			}
			wantPort(t, what, frame, plainPort(frame))
			frame[i] ^= turn
		}
	}
}

func TestPortOfEachByte(t *testing.T) {
	for _, size := range []int{12, 13, 14, 15, 33, 34, 35, 60, 100} {
		wantCounted(t, "not of IPv4", samples.Frame(size), func(i int) bool { return i < 12 })
	}
	for size := 14; size < 34; size++ {
		wantCounted(t, "of IPv4, and too short", ipv4(size), func(i int) bool { return i < 12 })
	}
	for _, size := range []int{34, 35, 60, 100} {
		wantCounted(t, "of IPv4", ipv4(size), func(i int) bool {
			return i < 14 || i == 23 || i >= 26 && i < 34
		})
	}
	for size := range 12 {
		wantCounted(t, "fewer than twelve bytes", samples.Frame(size), func(int) bool { return true })
	}
}

// Another type makes another port only since what is behind it counts no more.
func TestPortOfEachType(t *testing.T) {
	frame := ipv4(60)
	twelve, all := plainPort(frame[:12]), plainPort(frame)
	for n := range 1 << 16 {
		frame[12], frame[13] = byte(n>>8), byte(n)
		if n == 0x0800 {
			wantPort(t, "IPv4", frame, all)
		} else if got := Port(frame); got != twelve {
			t.Fatalf("type %04X: got %d, want %d", n, got, twelve)
		}
	}
}

// Bytes count by their places: those that change them make another port.
func TestPortOfTheOtherWayRound(t *testing.T) {
	back := slices.Concat(echo[6:12], echo[:6], echo[12:26], echo[30:34], echo[26:30], echo[34:])
	if Port(back) == Port(echo) {
		t.Fatal("both ways have one port")
	}
	wantPort(t, "the other way round", back, plainPort(back))
}

func TestPortsAreFrom49152On(t *testing.T) {
	n, seen := samples.Noise(31), map[uint16]bool{}
	for range 200000 {
		frame := n.Bytes(n.Of(12, 14, 34))
		if len(frame) == 34 && n.Below(2) == 0 {
			frame[12], frame[13] = 8, 0
		}
		port := Port(frame)
		if port < 49152 || port != plainPort(frame) {
			t.Fatalf("%X: got %d, want %d", frame, port, plainPort(frame))
		}
		seen[port] = true
	}
	if !seen[49152] || !seen[65535] || len(seen) < 16000 {
		t.Fatalf("%d ports, of which the first was seen: %v, and the last: %v", len(seen), seen[49152], seen[65535])
	}
}
