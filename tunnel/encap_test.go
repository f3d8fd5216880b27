package tunnel

import (
	"bytes"
	"slices"
	"testing"

	"underpass/api"
	"underpass/geneve"
	"underpass/gre"
	"underpass/samples"
)

// ErrNone is ahead of what is wrong with the frame.
func TestEncapOfNoTunnel(t *testing.T) {
	tb := tableOf(t, sixtyFour()...)
	wantDel(t, "one", tb, 5, api.OK)
	for _, size := range []int{0, 13, 14, 60, 9000, 9001} {
		frame := samples.Frame(size)
		for _, n := range append(slices.Clone(nobodys), 5) {
			wantNoPacket(t, "no tunnel", tb, n, frame, api.ErrNone)
		}
		wantNoPacket(t, "no tunnel at all", New(), 0, frame, api.ErrNone)
	}
	wantNoPacket(t, "no tunnel, and no frame", tb, 5, nil, api.ErrNone)
}

func TestEncapOfEachSizeOfAFrame(t *testing.T) {
	for _, kind := range kinds {
		tb := tableOf(t, some(kind, 5), full(kind))
		for _, size := range []int{0, 1, 11, 12, 13, 14, 15, 33, 34, 60, 8999, 9000, 9001, 9014, 65536, 65536 + 14, 100000} {
			for n := range 2 {
				frame := samples.Frame(size)
				switch {
				case size < 14:
					wantNoPacket(t, "fewer than 14 bytes", tb, n, frame, api.ErrShort, layers[kind])
				case size > 9000:
					wantNoPacket(t, "more than 9000 bytes", tb, n, frame, api.ErrBig, layers[kind])
				default:
					if p := packed(t, tb, n, frame); !bytes.HasSuffix(p.B, frame) {
						t.Fatalf("kind %d: got %d bytes, of a frame of %d", kind, len(p.B), size)
					}
				}
			}
		}
		wantNoPacket(t, "nil", tb, 0, nil, api.ErrShort, layers[kind])
	}
}

// A packet goes from the tunnel's own Local to its Peer, whatever the others
// are.
func TestEncapOfEachTunnelOfAFullTable(t *testing.T) {
	xs := sixtyFour()
	tb := tableOf(t, xs...)
	for n, x := range xs {
		p := packed(t, tb, n, echo)
		if p.Src != here || p.Dst != x.Peer {
			t.Fatalf("tunnel %d: got %08X to %08X", n, p.Src, p.Dst)
		}
		wantPacket(t, "one of many", tb, n, echo, packed(t, tableOf(t, x), 0, echo))
	}
}

// The port that a packet comes from is the frame's own, but of GRE.
func TestEncapOfPorts(t *testing.T) {
	for _, kind := range kinds {
		tb, n := tableOf(t, some(kind, 5)), samples.Noise(kind)
		for range 200 {
			frame := n.Bytes(14 + n.Below(50))
			if n.Below(2) == 0 {
				frame[12], frame[13] = 8, 0
			}
			p := packed(t, tb, 0, frame)
			proto, src, dst := uint8(17), plainPort(frame), map[int]uint16{api.VXLAN: 4789, api.Geneve: 6081}[kind]
			if kind == api.GRE {
				proto, src = 47, 0
			}
			if p.Proto != proto || p.SrcPort != src || p.DstPort != dst {
				t.Fatalf("kind %d: got protocol %d, %d to %d, want %d, %d to %d", kind, p.Proto, p.SrcPort, p.DstPort, proto, src, dst)
			}
		}
	}
}

// The bytes are those that the layers below make of a tunnel's fields.
func TestEncapOfIDs(t *testing.T) {
	for shift := range 32 {
		for _, id := range []uint32{1 << shift, 0xFFFFFFFF >> shift} {
			four := []byte{byte(id >> 24), byte(id >> 16), byte(id >> 8), byte(id)}
			p := packed(t, tableOf(t, some(api.GRE, id)), 0, echo)
			if !bytes.Equal(p.B, slices.Concat([]byte{0x20, 0, 0x65, 0x58}, four, echo)) {
				t.Fatalf("GRE, id %d: got %.20X", id, p.B)
			}
			if id >= 1<<24 {
				continue
			}
			p = packed(t, tableOf(t, some(api.VXLAN, id)), 0, echo)
			if !bytes.Equal(p.B, slices.Concat([]byte{8, 0, 0, 0}, four[1:], []byte{0}, echo)) {
				t.Fatalf("VXLAN, id %d: got %.20X", id, p.B)
			}
			p = packed(t, tableOf(t, some(api.Geneve, id)), 0, echo)
			if !bytes.Equal(p.B, slices.Concat([]byte{0, 0, 0x65, 0x58}, four[1:], []byte{0}, echo)) {
				t.Fatalf("Geneve, id %d: got %.20X", id, p.B)
			}
		}
	}
}

func TestEncapOfOptions(t *testing.T) {
	for _, l := range [][]api.Option{nil, {}, listOf(0), listOf(4), listOf(124, 120), listOf(0, 8, 0), make([]api.Option, 63), {{Class: 0xFFFF, Type: 0x7F}}} {
		x := some(api.Geneve, 5)
		x.Options = l
		tb := tableOf(t, x)
		for range 3 {
			p := packed(t, tb, 0, echo)
			if id, got, frame, err := geneve.Decap(p.B); err != nil || id != 5 || !samples.Alike(got, l) || !bytes.Equal(frame, echo) {
				t.Fatalf("%v: got %d, %v, %X, %v", l, id, got, frame, err)
			}
		}
	}
}

// headOf is the header that Encap has put ahead of the echo.
func headOf(t *testing.T, tb *Table, n int) gre.Header {
	t.Helper()
	h, frame, err := gre.Decap(packed(t, tb, n, echo).B)
	if err != nil || !bytes.Equal(frame, echo) {
		t.Fatalf("got %+v, %X, %v", h, frame, err)
	}
	return h
}

func TestEncapOfSumAndSeq(t *testing.T) {
	for n := range 4 {
		x := some(api.GRE, 0x01020304)
		x.Sum, x.Seq = n%2 == 1, n/2 == 1
		tb := tableOf(t, x)
		for i := range uint32(300) {
			want := gre.Header{Sum: x.Sum, Keyed: true, Key: 0x01020304, Seqed: x.Seq}
			if x.Seq {
				want.Seq = i
			}
			if h := headOf(t, tb, 0); h != want {
				t.Fatalf("packet %d: got %+v, want %+v", i, h, want)
			}
		}
	}
}

// Numbers go on by the packets of their own tunnel that were OK, by nothing
// else.
func TestWhatNumbersGoOnBy(t *testing.T) {
	x := full(api.GRE)
	y, z := x, x
	y.ID++
	z.ID, z.Seq = 0, false
	tb := tableOf(t, x, y, z, full(api.VXLAN))
	wantSeqs := func(what string, seqs ...uint32) {
		t.Helper()
		for n, want := range seqs {
			if got := headOf(t, tb, n).Seq; got != want {
				t.Fatalf("%s: tunnel %d: got %d, want %d", what, n, got, want)
			}
		}
	}
	wantSeqs("the first", 0, 0)
	wantSeqs("the second", 1)
	wantNoPacket(t, "a frame that is too short", tb, 0, echo[:13], api.ErrShort, "gre")
	wantNoPacket(t, "a frame that is too large", tb, 0, samples.Frame(9001), api.ErrBig, "gre")
	wantNoPacket(t, "no frame", tb, 1, nil, api.ErrShort, "gre")
	wantSeqs("behind what was refused", 2, 1)
	for range 5 {
		_, _ = packed(t, tb, 2, echo), packed(t, tb, 3, echo)
		wantNoPacket(t, "no tunnel", tb, 4, echo, api.ErrNone)
		wantNotAdded(t, "the same", tb, x, api.ErrState)
		_, _, _ = tb.Decap(packed(t, tableOf(t, turned(x)), 0, echo))
		_, _ = tb.Get(0)
	}
	wantSeqs("behind those of others", 3, 2, 0)
	for range 4 {
		_ = packed(t, tb, 1, echo)
	}
	wantDel(t, "another one", tb, 2, api.OK)
	wantSeqs("behind another one's Del", 4, 7)
	wantAdd(t, "another one", tb, z, 4)
	wantSeqs("behind an Add", 5, 8)
}

// By the chapter's words numbers begin again behind 2^32 packets.
func TestNumbersGoRound(t *testing.T) {
	x := full(api.GRE)
	tb := tableOf(t, x)
	tb.entries[0].sent = 1<<32 - 2
	for _, want := range []uint32{1<<32 - 2, 1<<32 - 1, 0, 1} {
		if got := headOf(t, tb, 0).Seq; got != want {
			t.Fatalf("got %d, want %d", got, want)
		}
	}
}

func TestEncapLeavesTheFrame(t *testing.T) {
	for _, kind := range kinds {
		for _, size := range []int{0, 13, 14, 60, 9000, 9001} {
			room := samples.Frame(size + 50)
			tb := tableOf(t, full(kind))
			_, _ = tb.Encap(0, room[:size])
			_, _ = tb.Encap(1, room[:size])
			if !bytes.Equal(room, samples.Frame(size+50)) {
				t.Fatalf("kind %d: a frame of %d bytes was changed", kind, size)
			}
		}
	}
}

// A packet is the caller's, and shares nothing with the frame.
func TestEncapKeepsNothing(t *testing.T) {
	for _, kind := range kinds {
		x := with(full(kind), func(x *Tunnel) { x.Seq = false })
		tb := tableOf(t, x)
		frame := bytes.Clone(echo)
		p := packed(t, tb, 0, frame)
		want := bytes.Clone(p.B)
		samples.Spoil(frame)
		if !bytes.Equal(p.B, want) {
			t.Fatalf("kind %d: a packet shares the frame's bytes", kind)
		}
		samples.Spoil(p.B)
		if frame[20] != 0xE7 || !bytes.Equal(packed(t, tb, 0, echo).B, want) {
			t.Fatalf("kind %d: two packets share bytes", kind)
		}
		wantGot(t, "a packet was written over", tb, 0, x)
	}
}
