package tunnel

import (
	"bytes"
	"slices"
	"testing"

	"underpass/api"
	"underpass/samples"
)

const (
	here  = api.IP(0x0A000001)
	there = api.IP(0x0A000002)
	other = api.IP(0xC0A80003)
)

var kinds = []int{api.VXLAN, api.Geneve, api.GRE}

// layers are those that tell what is wrong with what stands in a packet.
var layers = map[int]string{api.VXLAN: "vxlan", api.Geneve: "geneve", api.GRE: "gre"}

// some is a right tunnel, of which nothing is told that need not be.
func some(kind int, id uint32) Tunnel {
	return Tunnel{Kind: kind, Local: here, Peer: there, ID: id}
}

// full is a right tunnel of which all is told.
func full(kind int) Tunnel {
	x := Tunnel{Kind: kind, Local: here, Peer: there, ID: 0xABCDEF, Segment: 7, Known: []uint32{0x010280, 1<<32 - 1, 0x010280}, Sum: true, Seq: true}
	if kind == api.Geneve {
		x.Options = []api.Option{{Class: 0x0102, Type: 0x80, B: []byte{1, 2, 3, 4}}, {}, {Class: 7, Type: 8, B: []byte{5, 6, 7, 8}}}
	}
	return x
}

// numbered is a right tunnel unlike all others of another number.
func numbered(n int) Tunnel {
	return Tunnel{Kind: kinds[n%3], Local: here, Peer: there + api.IP(n/6), ID: uint32(n / 3 % 2), Segment: n % 8}
}

// turned is the tunnel of the other end.
func turned(x Tunnel) Tunnel {
	x.Local, x.Peer = x.Peer, x.Local
	return x
}

// with is the same tunnel, but for what is done to it.
func with(x Tunnel, change func(x *Tunnel)) Tunnel {
	change(&x)
	return x
}

// own is the same tunnel with lists of its own.
func own(x Tunnel) Tunnel {
	x.Options, x.Known = samples.Own(x.Options), slices.Clone(x.Known)
	return x
}

func alike(x, y Tunnel) bool {
	if !samples.Alike(x.Options, y.Options) || !slices.Equal(x.Known, y.Known) {
		return false
	}
	return x.Kind == y.Kind && x.Local == y.Local && x.Peer == y.Peer && x.ID == y.ID && x.Segment == y.Segment && x.Sum == y.Sum && x.Seq == y.Seq
}

// spoil writes over a tunnel's lists, and behind their ends as far as they have
// room.
func spoil(x Tunnel) {
	for _, o := range x.Options[:cap(x.Options)] {
		samples.Spoil(o.B)
	}
	for i := range x.Options[:cap(x.Options)] {
		x.Options[:cap(x.Options)][i] = api.Option{Class: 9, Type: 0xFF, B: []byte{9}}
	}
	for i := range x.Known[:cap(x.Known)] {
		x.Known[:cap(x.Known)][i] = 9
	}
}

// tableOf is a table to which these were added, in this order.
func tableOf(t *testing.T, xs ...Tunnel) *Table {
	t.Helper()
	tb := New()
	for n, x := range xs {
		wantAdd(t, "one of the first tunnels", tb, x, n)
	}
	return tb
}

// sixtyFour are as many as there is room for, unlike each other.
func sixtyFour() []Tunnel {
	var xs []Tunnel
	for n := range 64 {
		xs = append(xs, numbered(n))
	}
	return xs
}

// upTo are the numbers below one.
func upTo(n int) []int {
	var l []int
	for i := range n {
		l = append(l, i)
	}
	return l
}

func wantAdd(t *testing.T, what string, tb *Table, x Tunnel, n int) {
	t.Helper()
	if got, code := tb.Add(x); got != n || code != api.OK {
		t.Fatalf("%s: Add(%+v): got %d, %d, want %d", what, x, got, code, n)
	}
}

func wantNotAdded(t *testing.T, what string, tb *Table, x Tunnel, code api.Errno) {
	t.Helper()
	if n, got := tb.Add(x); n != 0 || got != code {
		t.Fatalf("%s: Add(%+v): got %d, %d, want code %d", what, x, n, got, code)
	}
}

func wantDel(t *testing.T, what string, tb *Table, n int, code api.Errno) {
	t.Helper()
	if got := tb.Del(n); got != code {
		t.Fatalf("%s: Del(%d): got %d, want %d", what, n, got, code)
	}
}

func wantGot(t *testing.T, what string, tb *Table, n int, x Tunnel) {
	t.Helper()
	if got, ok := tb.Get(n); !alike(got, x) || !ok {
		t.Fatalf("%s: Get(%d): got %+v, %v, want %+v", what, n, got, ok, x)
	}
}

func wantNotGot(t *testing.T, what string, tb *Table, n int) {
	t.Helper()
	got, ok := tb.Get(n)
	if !alike(got, Tunnel{}) || ok {
		t.Fatalf("%s: Get(%d): got %+v, %v, want nothing", what, n, got, ok)
	}
}

func wantNumbers(t *testing.T, what string, tb *Table, numbers ...int) {
	t.Helper()
	if got := tb.Numbers(); !slices.Equal(got, numbers) {
		t.Fatalf("%s: Numbers: got %v, want %v", what, got, numbers)
	}
}

func samePacket(p, q Packet) bool {
	return p.Src == q.Src && p.Dst == q.Dst && p.Proto == q.Proto && p.SrcPort == q.SrcPort && p.DstPort == q.DstPort && bytes.Equal(p.B, q.B)
}

func wantPacket(t *testing.T, what string, tb *Table, n int, frame []byte, want Packet) {
	t.Helper()
	if p, err := tb.Encap(n, frame); err != nil || !samePacket(p, want) {
		t.Fatalf("%s: Encap(%d): got %+v, %v, want %+v", what, n, p, err, want)
	}
}

// wantNoPacket asks for an error of the layers below, if any are named, or of
// this one.
func wantNoPacket(t *testing.T, what string, tb *Table, n int, frame []byte, code api.Errno, below ...string) {
	t.Helper()
	p, err := tb.Encap(n, frame)
	if !samples.IsWrong(err, code, append([]string{"tunnel"}, below...)...) {
		t.Fatalf("%s: Encap(%d): got %v, want %d of %v", what, n, err, code, below)
	}
	if p.B != nil || !samePacket(p, Packet{}) {
		t.Fatalf("%s: Encap(%d): %+v beside the error", what, n, p)
	}
}

// packed is what Encap makes, where that must be right.
func packed(t *testing.T, tb *Table, n int, frame []byte) Packet {
	t.Helper()
	p, err := tb.Encap(n, frame)
	if err != nil {
		t.Fatalf("Encap(%d) of %d bytes: %v", n, len(frame), err)
	}
	return p
}

func wantFrame(t *testing.T, what string, tb *Table, p Packet, n int, frame []byte) {
	t.Helper()
	got, b, err := tb.Decap(p)
	if err != nil || got != n || !bytes.Equal(b, frame) {
		t.Fatalf("%s: Decap: got %d, %d bytes, %.40X, %v, want %d, %d, %.40X", what, got, len(b), b, err, n, len(frame), frame)
	}
}

// wantRefused asks for an error of the layers below, if any are named, or of
// this one.
func wantRefused(t *testing.T, what string, tb *Table, p Packet, code api.Errno, below ...string) {
	t.Helper()
	n, b, err := tb.Decap(p)
	if !samples.IsWrong(err, code, append([]string{"tunnel"}, below...)...) {
		t.Fatalf("%s: Decap: got %d, %d bytes, %v, want %d of %v", what, n, len(b), err, code, below)
	}
	if n != 0 || b != nil {
		t.Fatalf("%s: Decap: %d and %d bytes beside the error", what, n, len(b))
	}
}

// echo is a frame with an IPv4 packet.
var echo = []byte{
	2, 0, 0, 0, 0, 2, 2, 0, 0, 0, 0, 1, 8, 0,
	0x45, 0, 0, 0x54, 0, 1, 0, 0, 0x40, 1, 0, 0, 0x0A, 0, 0, 1, 0x0A, 0, 0, 2,
	8, 0, 0xF7, 0xFE, 0, 0, 0, 1,
}

// packets are tunnels and frames, each with the packet that comes of it first;
// its B is what is ahead of the frame.
var packets = []struct {
	name  string
	x     Tunnel
	frame []byte
	p     Packet
}{
	{"VXLAN", Tunnel{Kind: 1, Local: 0x0A000001, Peer: 0x0A000002, ID: 5}, samples.Frame(14),
		Packet{0x0A000001, 0x0A000002, 17, 64685, 4789, []byte{8, 0, 0, 0, 0, 0, 5, 0}}},
	{"VXLAN that means no Sum and no Seq", Tunnel{Kind: 1, Local: 1, Peer: 0xFFFFFFFF, ID: 1<<24 - 1, Segment: 7, Sum: true, Seq: true}, echo,
		Packet{1, 0xFFFFFFFF, 17, 63478, 4789, []byte{8, 0, 0, 0, 0xFF, 0xFF, 0xFF, 0}}},
	{"Geneve", Tunnel{Kind: 2, Local: 0x0A000002, Peer: 0x0A000001}, make([]byte, 60),
		Packet{0x0A000002, 0x0A000001, 17, 58037, 6081, []byte{0, 0, 0x65, 0x58, 0, 0, 0, 0}}},
	{"Geneve with options, that means no Sum and no Seq", Tunnel{Kind: 2, Local: 3, Peer: 3, ID: 0x010203, Sum: true, Seq: true, Known: []uint32{0x0102FF},
		Options: []api.Option{{Class: 0x0102, Type: 0xFF, B: []byte{9, 8, 7, 6}}, {Class: 1}}}, samples.Frame(9000),
		Packet{3, 3, 17, 64685, 6081, []byte{3, 0x40, 0x65, 0x58, 1, 2, 3, 0, 1, 2, 0xFF, 1, 9, 8, 7, 6, 0, 1, 0, 0}}},
	{"GRE", Tunnel{Kind: 3, Local: 0x0A000001, Peer: 0x0A000002, ID: 5}, samples.Frame(14),
		Packet{0x0A000001, 0x0A000002, 47, 0, 0, []byte{0x20, 0, 0x65, 0x58, 0, 0, 0, 5}}},
	{"GRE of the highest id", Tunnel{Kind: 3, Local: 0x0A000001, Peer: 0x0A000002, ID: 1<<32 - 1}, echo,
		Packet{0x0A000001, 0x0A000002, 47, 0, 0, []byte{0x20, 0, 0x65, 0x58, 0xFF, 0xFF, 0xFF, 0xFF}}},
	{"GRE with Sum", Tunnel{Kind: 3, Local: 1, Peer: 2, ID: 0, Sum: true}, make([]byte, 14),
		Packet{1, 2, 47, 0, 0, []byte{0xA0, 0, 0x65, 0x58, 0xFA, 0xA6, 0, 0, 0, 0, 0, 0}}},
	{"GRE with Seq", Tunnel{Kind: 3, Local: 1, Peer: 2, ID: 0x01020304, Seq: true}, samples.Frame(61),
		Packet{1, 2, 47, 0, 0, []byte{0x30, 0, 0x65, 0x58, 1, 2, 3, 4, 0, 0, 0, 0}}},
	{"GRE with Sum and Seq", Tunnel{Kind: 3, Local: 1, Peer: 2, ID: 1 << 24, Sum: true, Seq: true}, make([]byte, 15),
		Packet{1, 2, 47, 0, 0, []byte{0xB0, 0, 0x65, 0x58, 0xE9, 0xA6, 0, 0, 1, 0, 0, 0, 0, 0, 0, 0}}},
}

func TestEncapAndDecapOfPackets(t *testing.T) {
	for _, c := range packets {
		p := c.p
		p.B = append(bytes.Clone(p.B), c.frame...)
		wantPacket(t, c.name, tableOf(t, c.x), 0, c.frame, p)
		wantFrame(t, c.name, tableOf(t, turned(c.x)), p, 0, c.frame)
	}
}

// Each tunnel is one of a full table, and so is the one of the other end.
func TestWhatWasPutInComesOutOfTheOtherEnd(t *testing.T) {
	near, far := New(), New()
	for n := range 64 {
		x := numbered(n)
		if x.Sum, x.Seq = n%2 == 0, n%5 < 3; x.Kind == api.Geneve && n%4 < 2 {
			x.Options = []api.Option{{Class: uint16(n), Type: uint8(n * 5), B: make([]byte, n%32*4)}}
			x.Known = []uint32{uint32(n)<<8 | uint32(uint8(n*5))}
		}
		wantAdd(t, "near", near, x, n)
	}
	for n := range 64 {
		x, _ := near.Get(63 - n)
		wantAdd(t, "far", far, turned(x), n)
	}
	for round, size := range []int{14, 60, 1514, 9000} {
		for n := range 64 {
			frame := samples.Frame(size)
			frame[size-1] = byte(n + round)
			wantFrame(t, "there", far, packed(t, near, n, frame), 63-n, frame)
			wantFrame(t, "and back", near, packed(t, far, 63-n, frame), n, frame)
		}
	}
}

// A packet in a packet in a packet comes out again as it was.
func TestAPacketInAPacket(t *testing.T) {
	var xs []Tunnel
	for _, kind := range kinds {
		xs = append(xs, full(kind))
	}
	near, far := tableOf(t, xs...), tableOf(t, turned(xs[0]), turned(xs[1]), turned(xs[2]))
	first := packed(t, near, 0, echo)
	second := packed(t, near, 1, first.B)
	third := packed(t, near, 2, second.B)
	wantFrame(t, "the third", far, third, 2, second.B)
	wantFrame(t, "the second", far, second, 1, first.B)
	wantFrame(t, "the first", far, first, 0, echo)
}

// A table is nobody else's: neither its tunnels, nor its numbers, nor what it
// has sent and accepted.
func TestTwoTables(t *testing.T) {
	x := full(api.GRE)
	one, two := tableOf(t, x, numbered(0)), New()
	wantNumbers(t, "the second", two)
	wantNotGot(t, "the second", two, 0)
	wantDel(t, "the second", two, 0, api.ErrNone)
	wantNoPacket(t, "the second", two, 0, echo, api.ErrNone)
	first := packed(t, one, 0, echo)
	wantAdd(t, "the same in the second", two, x, 0)
	if p := packed(t, two, 0, echo); !samePacket(p, first) {
		t.Fatalf("the second: got %+v, want %+v", p, first)
	}
	wantDel(t, "one of the first", one, 0, api.OK)
	wantGot(t, "the second", two, 0, x)
	three, four := tableOf(t, turned(x)), tableOf(t, turned(x))
	wantFrame(t, "the third", three, first, 0, echo)
	wantFrame(t, "the fourth", four, first, 0, echo)
	wantRefused(t, "the fourth", four, first, api.ErrLate)
}
