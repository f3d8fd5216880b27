package tunnel

import (
	"bytes"
	"slices"
	"testing"

	"underpass/api"
	"underpass/geneve"
	"underpass/gre"
	"underpass/samples"
	"underpass/vxlan"
)

// of is a packet of a Kind to a tunnel that is here, with any bytes.
func of(kind int, b []byte) Packet {
	switch kind {
	case api.VXLAN:
		return Packet{there, here, 17, 5, 4789, b}
	case api.Geneve:
		return Packet{there, here, 17, 5, 6081, b}
	}
	return Packet{there, here, 47, 0, 0, b}
}

// withIDOf is a packet of a Kind with the echo, to a tunnel that is here.
func withIDOf(kind int, id uint32) Packet {
	var b []byte
	switch kind {
	case api.VXLAN:
		b, _ = vxlan.Encap(id, echo)
	case api.Geneve:
		b, _ = geneve.Encap(id, nil, echo)
	case api.GRE:
		b, _ = gre.Encap(gre.Header{Keyed: true, Key: id}, echo)
	}
	return of(kind, b)
}

// withOptions is a Geneve packet with the echo.
func withOptions(id uint32, l ...api.Option) Packet {
	b, _ := geneve.Encap(id, l, echo)
	return of(api.Geneve, b)
}

// withHeader is a GRE packet with the echo.
func withHeader(h gre.Header) Packet {
	b, _ := gre.Encap(h, echo)
	return of(api.GRE, b)
}

// withSeq is a GRE packet with the echo, of a tunnel and a number.
func withSeq(key, seq uint32) Packet {
	return withHeader(gre.Header{Keyed: true, Key: key, Seqed: true, Seq: seq})
}

// allKinds is a table with one tunnel of each Kind, by its Kind less one.
func allKinds(t *testing.T) *Table {
	t.Helper()
	return tableOf(t, some(api.VXLAN, 5), some(api.Geneve, 5), some(api.GRE, 5))
}

func TestDecapOfEachProtocol(t *testing.T) {
	tb := allKinds(t)
	for _, kind := range kinds {
		p := withIDOf(kind, 5)
		for proto := range 256 {
			p.Proto = uint8(proto)
			switch {
			case proto == 17 && kind != api.GRE, proto == 47 && kind == api.GRE:
				wantFrame(t, "its protocol", tb, p, kind-1, echo)
			case proto == 47 && kind == api.VXLAN:
				wantRefused(t, "VXLAN in GRE", tb, p, api.ErrForm, "gre")
			case proto == 47:
				wantRefused(t, "Geneve in GRE", tb, p, api.ErrID)
			default:
				wantRefused(t, "another protocol", tb, p, api.ErrProto)
			}
		}
	}
}

// The port that a packet comes from means nothing, and that of GRE neither.
func TestDecapOfEachPort(t *testing.T) {
	tb := allKinds(t)
	for _, kind := range kinds {
		p := withIDOf(kind, 5)
		for n := range 1 << 16 {
			p.SrcPort = uint16(n)
			wantFrame(t, "any port that it comes from", tb, p, kind-1, echo)
		}
	}
	vx, gv, gr := withIDOf(api.VXLAN, 5), withIDOf(api.Geneve, 5), withIDOf(api.GRE, 5)
	for n := range 1 << 16 {
		vx.DstPort, gv.DstPort, gr.DstPort = uint16(n), uint16(n), uint16(n)
		wantFrame(t, "any port of GRE", tb, gr, 2, echo)
		switch n {
		case 4789:
			wantFrame(t, "VXLAN", tb, vx, 0, echo)
			wantRefused(t, "Geneve to VXLAN's port", tb, gv, api.ErrForm, "vxlan")
		case 6081:
			wantFrame(t, "Geneve", tb, gv, 1, echo)
			wantRefused(t, "VXLAN to Geneve's port", tb, vx, api.ErrProto, "geneve")
		default:
			wantRefused(t, "VXLAN to another port", tb, vx, api.ErrProto)
			wantRefused(t, "Geneve to another port", tb, gv, api.ErrProto)
		}
	}
	for _, p := range []Packet{vx, gv} {
		p.SrcPort = 4789
		wantRefused(t, "the port that it comes from", tb, p, api.ErrProto)
		p.SrcPort = 6081
		wantRefused(t, "the port that it comes from", tb, p, api.ErrProto)
	}
}

func TestDecapTellsWhatTheLayersBelowMet(t *testing.T) {
	frame, large := samples.Frame(13), samples.Frame(9001)
	for _, c := range []struct {
		name  string
		p     Packet
		code  api.Errno
		below []string
	}{
		{"VXLAN, nil", of(api.VXLAN, nil), api.ErrShort, []string{"vxlan", "octets"}},
		{"VXLAN, seven bytes", of(api.VXLAN, make([]byte, 7)), api.ErrShort, []string{"vxlan", "octets"}},
		{"VXLAN without an id", of(api.VXLAN, make([]byte, 60)), api.ErrForm, []string{"vxlan"}},
		{"VXLAN, a short frame", of(api.VXLAN, append([]byte{8, 0, 0, 0, 0, 0, 5, 0}, frame...)), api.ErrShort, []string{"vxlan"}},
		{"VXLAN, a large frame", of(api.VXLAN, append([]byte{8, 0, 0, 0, 0, 0, 5, 0}, large...)), api.ErrBig, []string{"vxlan"}},
		{"Geneve, nil", of(api.Geneve, nil), api.ErrShort, []string{"geneve", "octets"}},
		{"Geneve, options that are not there", of(api.Geneve, []byte{1, 0, 0x65, 0x58, 0, 0, 5, 0, 1, 2, 3}), api.ErrShort, []string{"geneve", "octets"}},
		{"Geneve of another version", of(api.Geneve, append([]byte{0x40, 0, 0x65, 0x58, 0, 0, 5, 0}, echo...)), api.ErrForm, []string{"geneve"}},
		{"Geneve of another protocol", of(api.Geneve, make([]byte, 60)), api.ErrProto, []string{"geneve"}},
		{"Geneve, a short frame", of(api.Geneve, append([]byte{0, 0, 0x65, 0x58, 0, 0, 5, 0}, frame...)), api.ErrShort, []string{"geneve"}},
		{"Geneve, a large frame", of(api.Geneve, append([]byte{0, 0, 0x65, 0x58, 0, 0, 5, 0}, large...)), api.ErrBig, []string{"geneve"}},
		{"GRE, nil", of(api.GRE, nil), api.ErrShort, []string{"gre", "octets"}},
		{"GRE, a Key that is not whole", of(api.GRE, []byte{0x20, 0, 0x65, 0x58, 0, 0, 0}), api.ErrShort, []string{"gre", "octets"}},
		{"GRE, another bit", of(api.GRE, append([]byte{0x20, 1, 0x65, 0x58, 0, 0, 0, 5}, echo...)), api.ErrForm, []string{"gre"}},
		{"GRE of another protocol", of(api.GRE, append([]byte{0x20, 0, 0x08, 0, 0, 0, 0, 5}, echo...)), api.ErrProto, []string{"gre"}},
		{"GRE, a wrong sum", of(api.GRE, append([]byte{0xA0, 0, 0x65, 0x58, 0, 0, 0, 0, 0, 0, 0, 5}, echo...)), api.ErrSum, []string{"gre"}},
		{"GRE, a short frame", of(api.GRE, append([]byte{0x20, 0, 0x65, 0x58, 0, 0, 0, 5}, frame...)), api.ErrShort, []string{"gre"}},
		{"GRE, a large frame", of(api.GRE, append([]byte{0x20, 0, 0x65, 0x58, 0, 0, 0, 5}, large...)), api.ErrBig, []string{"gre"}},
	} {
		wantRefused(t, c.name, allKinds(t), c.p, c.code, c.below...)
		wantRefused(t, c.name+", and no tunnel", New(), c.p, c.code, c.below...)
		c.p.Proto = 6
		wantRefused(t, c.name+", of another protocol", allKinds(t), c.p, api.ErrProto)
	}
}

func TestDecapOfOtherEnds(t *testing.T) {
	for _, kind := range kinds {
		tb := allKinds(t)
		for _, c := range []struct {
			name     string
			src, dst api.IP
		}{
			{"the other way round", here, there},
			{"of another one", other, here},
			{"to another one", there, other},
			{"of nobody", 0, here},
			{"to nobody", there, 0},
			{"of one to itself", here, here},
			{"of the peer to itself", there, there},
			{"another last bit", there ^ 1, here},
			{"another first bit", there, here ^ 1<<31},
			{"neither", 0, 0},
		} {
			p := withIDOf(kind, 5)
			p.Src, p.Dst = c.src, c.dst
			wantRefused(t, c.name, tb, p, api.ErrPeer)
		}
		wantFrame(t, "these ends", tb, withIDOf(kind, 5), kind-1, echo)
		wantRefused(t, "an empty table", New(), withIDOf(kind, 5), api.ErrPeer)
		wantDel(t, "it goes", tb, kind-1, api.OK)
		wantRefused(t, "tunnels of other Kinds alone", tb, withIDOf(kind, 5), api.ErrPeer)
	}
}

// Both ends of a tunnel are of one tunnel: one of this one, and one of that
// one, are of none.
func TestDecapOfEndsOfTwoTunnels(t *testing.T) {
	for _, kind := range kinds {
		tb := tableOf(t, some(kind, 5), Tunnel{Kind: kind, Local: other, Peer: other + 1, ID: 5})
		p := withIDOf(kind, 5)
		p.Src = other + 1
		wantRefused(t, "one's Local, another one's Peer", tb, p, api.ErrPeer)
		p.Dst = other
		wantFrame(t, "the other one", tb, p, 1, echo)
		p.Src = there
		wantRefused(t, "the other one's Local", tb, p, api.ErrPeer)
		p.Dst = here
		wantFrame(t, "the one", tb, p, 0, echo)
	}
}

func TestDecapOfOtherIDs(t *testing.T) {
	for _, kind := range kinds {
		ids := []uint32{5, 0, 1<<24 - 1, 0x010203, 6}
		if kind == api.GRE {
			ids = append(ids, 1<<24, 1<<32-1, 1<<24+5)
		}
		tb := New()
		for n, id := range ids {
			wantAdd(t, "one of these ends", tb, some(kind, id), n)
		}
		wantAdd(t, "one of other ends", tb, Tunnel{Kind: kind, Local: here, Peer: other, ID: 7}, len(ids))
		wantAdd(t, "one of another Kind", tb, some(kind%3+1, 8), len(ids)+1)
		for n, id := range ids {
			wantFrame(t, "an id", tb, withIDOf(kind, id), n, echo)
		}
		for _, id := range []uint32{1, 4, 7, 8, 5 << 8, 5 << 16, 0x030201, 1<<24 - 2, 1 << 23, 1<<23 + 5} {
			wantRefused(t, "another id", tb, withIDOf(kind, id), api.ErrID)
		}
		wantDel(t, "one of them", tb, 0, api.OK)
		wantRefused(t, "one that is gone", tb, withIDOf(kind, 5), api.ErrID)
		for n, id := range ids[1:] {
			wantFrame(t, "the others", tb, withIDOf(kind, id), n+1, echo)
		}
	}
	tb := tableOf(t, some(api.GRE, 5))
	for bit := range 32 {
		wantRefused(t, "another bit of a Key", tb, withIDOf(api.GRE, 5^1<<bit), api.ErrID)
	}
}

// A packet without a Key has no id, and so not that of a tunnel of id 0 either.
func TestDecapOfGREWithoutAKey(t *testing.T) {
	for _, tb := range []*Table{
		tableOf(t, some(api.GRE, 5)),
		tableOf(t, some(api.GRE, 0)),
		tableOf(t, some(api.GRE, 5), some(api.GRE, 0), full(api.GRE)),
		tableOf(t, with(some(api.GRE, 0), func(x *Tunnel) { x.Sum, x.Seq = true, true })),
	} {
		for _, h := range []gre.Header{{}, {Sum: true}, {Seqed: true, Seq: 5}, {Sum: true, Seqed: true}, {Key: 5}} {
			wantRefused(t, "no Key", tb, withHeader(h), api.ErrID)
		}
	}
	wantRefused(t, "no Key, and no tunnel", New(), withHeader(gre.Header{}), api.ErrPeer)
	wantRefused(t, "no Key, and other Kinds", tableOf(t, some(api.VXLAN, 0), some(api.Geneve, 0)), withHeader(gre.Header{}), api.ErrPeer)
	wantFrame(t, "a Key of 0", tableOf(t, some(api.GRE, 0)), withIDOf(api.GRE, 0), 0, echo)
}

func TestDecapOfOptions(t *testing.T) {
	bytes4 := []byte{1, 2, 3, 4}
	for _, c := range []struct {
		name  string
		known []uint32
		l     []api.Option
		right bool
	}{
		{"none", nil, nil, true},
		{"not critical", nil, []api.Option{{Class: 0x0102, Type: 0x7F}}, true},
		{"not critical, of noughts", nil, []api.Option{{}}, true},
		{"critical", nil, []api.Option{{Class: 0x0102, Type: 0x80}}, false},
		{"critical, and Known is empty", []uint32{}, []api.Option{{Class: 0x0102, Type: 0x80}}, false},
		{"critical and Known", []uint32{0x010280}, []api.Option{{Class: 0x0102, Type: 0x80}}, true},
		{"critical and Known, with bytes", []uint32{0x010280}, []api.Option{{Class: 0x0102, Type: 0x80, B: bytes4}}, true},
		{"critical and the last Known", []uint32{1, 2, 0x010280}, []api.Option{{Class: 0x0102, Type: 0x80}}, true},
		{"critical and Known twice", []uint32{0x010280, 0x010280}, []api.Option{{Class: 0x0102, Type: 0x80}}, true},
		{"the lowest Class", []uint32{0x000080}, []api.Option{{Class: 0, Type: 0x80}}, true},
		{"the highest of all", []uint32{0xFFFFFF}, []api.Option{{Class: 0xFFFF, Type: 0xFF}}, true},
		{"another Class", []uint32{0x010280}, []api.Option{{Class: 0x0103, Type: 0x80}}, false},
		{"a higher Class", []uint32{0x010280}, []api.Option{{Class: 0x0202, Type: 0x80}}, false},
		{"another Type", []uint32{0x010280}, []api.Option{{Class: 0x0102, Type: 0x81}}, false},
		{"a higher Type", []uint32{0x010280}, []api.Option{{Class: 0x0102, Type: 0xC0}}, false},
		{"the Class the other way round", []uint32{0x010280}, []api.Option{{Class: 0x0201, Type: 0x80}}, false},
		{"the Type ahead of the Class", []uint32{0x800102}, []api.Option{{Class: 0x0102, Type: 0x80}}, false},
		{"the Type without its highest bit", []uint32{0x010200}, []api.Option{{Class: 0x0102, Type: 0x80}}, false},
		{"the Class alone", []uint32{0x0102}, []api.Option{{Class: 0x0102, Type: 0x80}}, false},
		{"a bit above all", []uint32{1<<24 + 0x010280, 1<<31 + 0x010280}, []api.Option{{Class: 0x0102, Type: 0x80}}, false},
		{"all bits", []uint32{1<<32 - 1}, []api.Option{{Class: 0xFFFF, Type: 0xFF}}, false},
		{"Known, and one that is not critical", []uint32{0x010280}, []api.Option{{Class: 0x0102, Type: 0x80}, {Class: 9, Type: 1}}, true},
		{"the first of two is not Known", []uint32{0x010280}, []api.Option{{Class: 3, Type: 0x80}, {Class: 0x0102, Type: 0x80}}, false},
		{"the last of two is not Known", []uint32{0x010280}, []api.Option{{Class: 0x0102, Type: 0x80}, {Class: 3, Type: 0x80}}, false},
		{"both are Known", []uint32{0x000380, 0x010280}, []api.Option{{Class: 0x0102, Type: 0x80}, {Class: 3, Type: 0x80}}, true},
		{"one of 63 is not Known", []uint32{0x010280}, append(make([]api.Option, 62), api.Option{Class: 1, Type: 0x80}), false},
	} {
		for n := range 4 {
			x := some(api.Geneve, 5)
			x.Known, x.Sum, x.Seq = c.known, n%2 == 1, n/2 == 1
			tb := tableOf(t, x)
			if c.right {
				wantFrame(t, c.name, tb, withOptions(5, c.l...), 0, echo)
			} else {
				wantRefused(t, c.name, tb, withOptions(5, c.l...), api.ErrOption)
			}
		}
	}
}

// What options a tunnel has itself does not matter to what it takes; nor do
// those that another one knows.
func TestDecapOfOptionsOfOthers(t *testing.T) {
	x, y := some(api.Geneve, 5), some(api.Geneve, 6)
	x.Options, x.Known = listOf(0, 4), []uint32{0x000980}
	y.Options, y.Known = listOf(8), []uint32{0x000080, 0x000180}
	tb := tableOf(t, x, y)
	wantRefused(t, "its own", tb, withOptions(5, listOf(0, 4)...), api.ErrOption)
	wantFrame(t, "what it knows", tb, withOptions(5, api.Option{Class: 9, Type: 0x80}), 0, echo)
	wantFrame(t, "none", tb, withOptions(5), 0, echo)
	wantRefused(t, "what the other one knows", tb, withOptions(6, api.Option{Class: 9, Type: 0x80}), api.ErrOption)
	wantFrame(t, "what it knows", tb, withOptions(6, listOf(0, 4)...), 1, echo)
}

func TestDecapOfEachClassAndType(t *testing.T) {
	x := some(api.Geneve, 5)
	x.Known = []uint32{0x1234A5}
	tb := tableOf(t, x)
	for n := range 1 << 16 {
		p := withOptions(5, api.Option{Class: uint16(n), Type: 0xA5})
		if n == 0x1234 {
			wantFrame(t, "its Class", tb, p, 0, echo)
		} else {
			wantRefused(t, "another Class", tb, p, api.ErrOption)
		}
	}
	for n := range 256 {
		p := withOptions(5, api.Option{Class: 0x1234, Type: uint8(n)})
		if n < 128 || n == 0xA5 {
			wantFrame(t, "its Type, or none that is critical", tb, p, 0, echo)
		} else {
			wantRefused(t, "another Type", tb, p, api.ErrOption)
		}
	}
}

// Whether there is a sum is the packet's own.
func TestDecapOfSums(t *testing.T) {
	for _, sum := range []bool{false, true} {
		tb := tableOf(t, with(some(api.GRE, 5), func(x *Tunnel) { x.Sum = sum }))
		wantFrame(t, "a sum", tb, withHeader(gre.Header{Sum: true, Keyed: true, Key: 5}), 0, echo)
		wantFrame(t, "no sum", tb, withHeader(gre.Header{Keyed: true, Key: 5}), 0, echo)
		p := withHeader(gre.Header{Sum: true, Keyed: true, Key: 5})
		p.B[20] ^= 1
		wantRefused(t, "a wrong sum", tb, p, api.ErrSum, "gre")
	}
}

// step is a number that comes, and whether it is accepted.
type step struct {
	seq uint32
	ok  bool
}

// rows are numbers of one tunnel, in the order in which they come.
var rows = [][]step{
	{{0, true}, {0, false}, {1, true}, {0, false}, {2, true}, {5, true}, {3, false}, {4, false}, {5, false}, {6, true}},
	{{9, true}, {8, false}, {0, false}, {10, true}},
	{{1<<32 - 2, true}, {1<<32 - 1, true}, {1<<32 - 2, false}, {0, true}, {1<<32 - 1, false}, {2, true}, {1, false}, {3, true}},
	{{5, true}, {5 + 1<<31, false}, {4 + 1<<31, true}, {5, false}, {3 + 1<<31, false}, {4, false}, {3, true}},
	{{0, true}, {1 << 31, false}, {1<<31 - 1, true}, {1<<32 - 2, true}, {1<<32 - 3, false}, {1, true}},
	{{1 << 31, true}, {0, false}, {1<<32 - 1, true}, {0, true}},
	{{1<<32 - 1, true}, {1<<32 - 1, false}, {1<<31 - 1, false}, {1<<31 - 2, true}},
}

// Each row is of a tunnel of its own, and they come in turn.
func TestDecapOfNumbers(t *testing.T) {
	tb := New()
	for n := range rows {
		wantAdd(t, "one with Seq", tb, with(some(api.GRE, uint32(n)), func(x *Tunnel) { x.Seq = true }), n)
	}
	for i := range 12 {
		for n, row := range rows {
			if i >= len(row) {
				continue
			}
			p := withSeq(uint32(n), row[i].seq)
			if row[i].ok {
				wantFrame(t, "ahead", tb, p, n, echo)
			} else {
				wantRefused(t, "late", tb, p, api.ErrLate)
			}
		}
	}
}

// Where the tunnel has no Seq numbers mean nothing; where the packet is not
// Seqed there is none that could be late, and none that is last.
func TestDecapWithoutSeq(t *testing.T) {
	tb := tableOf(t, some(api.GRE, 5), with(some(api.GRE, 6), func(x *Tunnel) { x.Seq = true }))
	for _, seq := range []uint32{9, 9, 8, 0, 1 << 31, 9, 1<<32 - 1, 0} {
		wantFrame(t, "no Seq", tb, withSeq(5, seq), 0, echo)
		wantFrame(t, "no Seq, and not Seqed", tb, withHeader(gre.Header{Keyed: true, Key: 5}), 0, echo)
	}
	plain := withHeader(gre.Header{Keyed: true, Key: 6, Seq: 1000})
	for range 3 {
		wantFrame(t, "not Seqed", tb, plain, 1, echo)
	}
	wantFrame(t, "the first that is Seqed", tb, withSeq(6, 1<<31), 1, echo)
	wantFrame(t, "not Seqed", tb, plain, 1, echo)
	wantRefused(t, "the same number", tb, withSeq(6, 1<<31), api.ErrLate)
	wantFrame(t, "not Seqed", tb, plain, 1, echo)
	wantFrame(t, "the next", tb, withSeq(6, 1<<31+1), 1, echo)
	wantFrame(t, "with a sum", tb, withHeader(gre.Header{Sum: true, Keyed: true, Key: 6, Seqed: true, Seq: 1<<31 + 2}), 1, echo)
	wantRefused(t, "the one with a sum", tb, withSeq(6, 1<<31+2), api.ErrLate)
}

// A Seq of a tunnel that is not GRE means nothing, since its packets have none.
func TestDecapOfSeqOfOtherKinds(t *testing.T) {
	for _, kind := range []int{api.VXLAN, api.Geneve} {
		tb := tableOf(t, with(some(kind, 5), func(x *Tunnel) { x.Sum, x.Seq = true, true }))
		for range 3 {
			wantFrame(t, "the same packet", tb, withIDOf(kind, 5), 0, echo)
		}
	}
}

// What is refused, by whatever, is not the last one that was accepted, and
// what the table itself has sent neither.
func TestWhatIsRefusedChangesNothing(t *testing.T) {
	x := full(api.GRE)
	x.ID = 5
	tb := tableOf(t, x, full(api.Geneve))
	wantFrame(t, "the first", tb, withSeq(5, 10), 0, echo)
	ahead := withSeq(5, 100)
	for _, c := range []struct {
		name   string
		change func(p *Packet)
		code   api.Errno
		below  []string
	}{
		{"another protocol", func(p *Packet) { p.Proto = 6 }, api.ErrProto, nil},
		{"another bit", func(p *Packet) { p.B[1] = 1 }, api.ErrForm, []string{"gre"}},
		{"no frame", func(p *Packet) { p.B = p.B[:12] }, api.ErrShort, []string{"gre"}},
		{"a part of its Seq", func(p *Packet) { p.B = p.B[:11] }, api.ErrShort, []string{"gre", "octets"}},
		{"the other way round", func(p *Packet) { p.Src, p.Dst = p.Dst, p.Src }, api.ErrPeer, nil},
		{"another peer", func(p *Packet) { p.Src = other }, api.ErrPeer, nil},
		{"another id", func(p *Packet) { p.B[7] = 6 }, api.ErrID, nil},
		{"no id", func(p *Packet) { *p = withHeader(gre.Header{Seqed: true, Seq: 100}) }, api.ErrID, nil},
		{"a late one", func(p *Packet) { *p = withSeq(5, 9) }, api.ErrLate, nil},
		{"one that is far behind", func(p *Packet) { *p = withSeq(5, 10+1<<31) }, api.ErrLate, nil},
		{"an option", func(p *Packet) { *p = withOptions(0xABCDEF, api.Option{Class: 1, Type: 0x80}) }, api.ErrOption, nil},
	} {
		p := ahead
		p.B = bytes.Clone(p.B)
		c.change(&p)
		wantRefused(t, c.name, tb, p, c.code, c.below...)
		wantRefused(t, c.name+" once more", tb, p, c.code, c.below...)
	}
	_ = packed(t, tb, 0, echo)
	wantFrame(t, "just ahead of the last one that was accepted", tb, withSeq(5, 11), 0, echo)
	wantFrame(t, "the one that was refused", tb, ahead, 0, echo)
	wantRefused(t, "the one that was refused, again", tb, ahead, api.ErrLate)
	wantNumbers(t, "the tunnels", tb, 0, 1)
	if h := headOf(t, tb, 0); h.Seq != 1 {
		t.Fatalf("got Seq %d", h.Seq)
	}
}

// Two faults beside each other: the first one is told.
func TestDecapTellsTheFirstOfTwo(t *testing.T) {
	seq := with(some(api.GRE, 5), func(x *Tunnel) { x.Seq = true })
	tb := tableOf(t, some(api.VXLAN, 5), some(api.Geneve, 5), seq)
	wantFrame(t, "the first", tb, withSeq(5, 10), 2, echo)
	strange := api.Option{Class: 1, Type: 0x80}
	from := func(p Packet, src api.IP) Packet {
		p.Src = src
		return p
	}
	proto := func(p Packet, n uint8) Packet {
		p.Proto = n
		return p
	}
	for _, c := range []struct {
		name  string
		p     Packet
		code  api.Errno
		below []string
	}{
		{"another protocol, and what the layer met", proto(of(api.VXLAN, nil), 16), api.ErrProto, nil},
		{"another protocol, and another peer", proto(from(withIDOf(api.GRE, 5), other), 46), api.ErrProto, nil},
		{"another protocol, and another id", proto(withIDOf(api.Geneve, 6), 18), api.ErrProto, nil},
		{"another protocol, and an option", proto(withOptions(5, strange), 0), api.ErrProto, nil},
		{"another protocol, and late", proto(withSeq(5, 9), 48), api.ErrProto, nil},
		{"another port, and what the layer met", Packet{there, here, 17, 4789, 4790, nil}, api.ErrProto, nil},
		{"VXLAN that is too short, and another peer", from(of(api.VXLAN, echo[:7]), other), api.ErrShort, []string{"vxlan", "octets"}},
		{"Geneve without a frame, and another peer", from(of(api.Geneve, []byte{0, 0, 0x65, 0x58, 0, 0, 5, 0}), other), api.ErrShort, []string{"geneve"}},
		{"Geneve without a frame, and an option", of(api.Geneve, []byte{1, 0x40, 0x65, 0x58, 0, 0, 5, 0, 0, 1, 0x80, 0}), api.ErrShort, []string{"geneve"}},
		{"GRE of another protocol, and another peer", from(of(api.GRE, make([]byte, 60)), other), api.ErrProto, []string{"gre"}},
		{"GRE without a frame, and another id", of(api.GRE, []byte{0x20, 0, 0x65, 0x58, 0, 0, 0, 6}), api.ErrShort, []string{"gre"}},
		{"GRE without a frame, and late", of(api.GRE, []byte{0x30, 0, 0x65, 0x58, 0, 0, 0, 5, 0, 0, 0, 9}), api.ErrShort, []string{"gre"}},
		{"another peer, and another id: VXLAN", from(withIDOf(api.VXLAN, 6), other), api.ErrPeer, nil},
		{"another peer, and another id: Geneve", from(withIDOf(api.Geneve, 6), other), api.ErrPeer, nil},
		{"another peer, and no id", from(withHeader(gre.Header{}), other), api.ErrPeer, nil},
		{"another peer, and an option", from(withOptions(5, strange), other), api.ErrPeer, nil},
		{"another peer, and late", from(withSeq(5, 9), other), api.ErrPeer, nil},
		{"another id, and an option", withOptions(6, strange), api.ErrID, nil},
		{"another id, and late", withSeq(6, 9), api.ErrID, nil},
		{"no id, and late", withHeader(gre.Header{Seqed: true, Seq: 9}), api.ErrID, nil},
	} {
		wantRefused(t, c.name, tb, c.p, c.code, c.below...)
	}
}

// It is the tunnel's number that is told, not its place.
func TestDecapTellsNumbers(t *testing.T) {
	xs := sixtyFour()
	tb := tableOf(t, xs...)
	for n := range 32 {
		wantDel(t, "each other one", tb, 2*n, api.OK)
		wantAdd(t, "again", tb, xs[2*n], 64+n)
	}
	for n, x := range xs {
		p := withIDOf(x.Kind, x.ID)
		p.Src = x.Peer
		if n%2 == 1 {
			wantFrame(t, "one that stayed", tb, p, n, echo)
		} else {
			wantFrame(t, "one that came again", tb, p, 64+n/2, echo)
		}
	}
}

func TestDecapLeavesWhatItIsHanded(t *testing.T) {
	for _, kind := range kinds {
		for size := range 60 {
			p := withIDOf(kind, 5)
			room := append(slices.Clone(p.B), bytes.Repeat([]byte{0xAA}, 20)...)
			want := bytes.Clone(room)
			p.B = room[:min(size, len(p.B))]
			before := p
			_, _, _ = allKinds(t).Decap(p)
			if !bytes.Equal(room, want) || !samePacket(p, before) {
				t.Fatalf("kind %d: %d bytes were changed", kind, size)
			}
		}
	}
}

// A frame is the caller's, and shares nothing with the packet.
func TestDecapKeepsNothing(t *testing.T) {
	for _, kind := range kinds {
		tb, p := allKinds(t), withIDOf(kind, 5)
		want := bytes.Clone(p.B)
		_, first, err := tb.Decap(p)
		if err != nil {
			t.Fatal(err)
		}
		_, second, _ := tb.Decap(p)
		samples.Spoil(first)
		if !bytes.Equal(p.B, want) || !bytes.Equal(second, echo) {
			t.Fatalf("kind %d: a frame shares its bytes", kind)
		}
		samples.Spoil(p.B)
		if !bytes.Equal(second, echo) {
			t.Fatalf("kind %d: a frame shares the packet's bytes", kind)
		}
		wantFrame(t, "another packet", tb, withIDOf(kind, 5), kind-1, echo)
	}
}
