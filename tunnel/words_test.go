package tunnel

import (
	"bytes"
	"slices"
	"testing"

	"underpass/api"
	"underpass/geneve"
	"underpass/gre"
	"underpass/samples"
	"underpass/vxlan"
)

// A plainTable does as the words of N1 and N2 say: a list of tunnels, each with
// what it has sent, and the numbers that it has accepted.
type plainTable struct {
	all   []*plainTunnel
	given int
}

type plainTunnel struct {
	number   int
	x        Tunnel
	sent     int
	accepted []uint32
}

func (p *plainTable) add(x Tunnel) (int, api.Errno) {
	if x.Kind < 1 || x.Kind > 3 || x.Local == 0 || x.Peer == 0 || x.Segment < 0 || x.Segment > 7 {
		return 0, 1
	}
	if x.Kind != 3 && x.ID > 0xFFFFFF {
		return 0, 1
	}
	if len(x.Options) > 0 && (x.Kind != 2 || geneve.Right(x.Options) != nil) {
		return 0, 1
	}
	for _, y := range p.all {
		if y.x.Kind == x.Kind && y.x.Local == x.Local && y.x.Peer == x.Peer && y.x.ID == x.ID {
			return 0, 8
		}
	}
	if len(p.all) == 64 {
		return 0, 5
	}
	p.all = append(p.all, &plainTunnel{number: p.given, x: own(x)})
	p.given++
	return p.given - 1, 0
}

func (p *plainTable) get(n int) *plainTunnel {
	for _, y := range p.all {
		if y.number == n {
			return y
		}
	}
	return nil
}

func (p *plainTable) del(n int) api.Errno {
	y := p.get(n)
	if y == nil {
		return 6
	}
	i := slices.Index(p.all, y)
	p.all = slices.Concat(p.all[:i], p.all[i+1:])
	return 0
}

func (p *plainTable) encap(n int, frame []byte) (Packet, string) {
	y := p.get(n)
	if y == nil {
		return Packet{}, "tunnel: error 6"
	}
	var b []byte
	var err error
	q := Packet{Src: y.x.Local, Dst: y.x.Peer, Proto: 17, SrcPort: plainPort(frame)}
	switch y.x.Kind {
	case 1:
		q.DstPort = 4789
		b, err = vxlan.Encap(y.x.ID, frame)
	case 2:
		q.DstPort = 6081
		b, err = geneve.Encap(y.x.ID, y.x.Options, frame)
	case 3:
		q.Proto, q.SrcPort = 47, 0
		b, err = gre.Encap(gre.Header{Sum: y.x.Sum, Keyed: true, Key: y.x.ID, Seqed: y.x.Seq, Seq: uint32(y.sent)}, frame)
	}
	if err != nil {
		return Packet{}, "tunnel: " + err.Error()
	}
	y.sent++
	q.B = b
	return q, ""
}

func (p *plainTable) decap(q Packet) (int, []byte, string) {
	kind, l, h, frame, wrong := plainOpen(q)
	if wrong != "" {
		return 0, nil, wrong
	}
	var found *plainTunnel
	between := 0
	for _, y := range p.all {
		if y.x.Kind != kind || y.x.Local != q.Dst || y.x.Peer != q.Src {
			continue
		}
		between++
		if h.Keyed && h.Key == y.x.ID {
			found = y
		}
	}
	switch {
	case between == 0:
		return 0, nil, "tunnel: error 9"
	case found == nil:
		return 0, nil, "tunnel: error 10"
	}
	for _, o := range l {
		if o.Type > 127 && !slices.Contains(found.x.Known, 256*uint32(o.Class)+uint32(o.Type)) {
			return 0, nil, "tunnel: error 11"
		}
	}
	if found.x.Seq && h.Seqed {
		if n := len(found.accepted); n > 0 {
			if way := (int64(h.Seq) - int64(found.accepted[n-1]) + 1<<32) % (1 << 32); way < 1 || way > 1<<31-1 {
				return 0, nil, "tunnel: error 13"
			}
		}
		found.accepted = append(found.accepted, h.Seq)
	}
	return found.number, frame, ""
}

func plainOpen(q Packet) (kind int, l []api.Option, h gre.Header, frame []byte, wrong string) {
	var err error
	h.Keyed = true
	switch {
	case q.Proto == 17 && q.DstPort == 4789:
		kind = 1
		h.Key, frame, err = vxlan.Decap(q.B)
	case q.Proto == 17 && q.DstPort == 6081:
		kind = 2
		h.Key, l, frame, err = geneve.Decap(q.B)
	case q.Proto == 47:
		kind = 3
		h, frame, err = gre.Decap(q.B)
	default:
		err = api.ErrProto
	}
	if err != nil {
		return 0, nil, gre.Header{}, nil, "tunnel: " + err.Error()
	}
	return kind, l, h, frame, ""
}

// both are a table, and what the words say of it; and how often what was told.
type both struct {
	t     *testing.T
	table *Table
	plain plainTable
	told  map[string]int
}

func (x *both) add(y Tunnel) {
	x.t.Helper()
	n, code := x.table.Add(y)
	if want, wrong := x.plain.add(y); n != want || code != wrong {
		x.t.Fatalf("Add(%+v): got %d, %d, want %d, %d", y, n, code, want, wrong)
	}
	x.told["Add: "+code.Error()]++
}

func (x *both) del(n int) {
	x.t.Helper()
	code := x.table.Del(n)
	if want := x.plain.del(n); code != want {
		x.t.Fatalf("Del(%d): got %d, want %d", n, code, want)
	}
	x.told["Del: "+code.Error()]++
}

func (x *both) look(n int) {
	x.t.Helper()
	if y := x.plain.get(n); y != nil {
		wantGot(x.t, "a number", x.table, n, y.x)
	} else {
		wantNotGot(x.t, "a number", x.table, n)
	}
	var numbers []int
	for _, y := range x.plain.all {
		numbers = append(numbers, y.number)
	}
	wantNumbers(x.t, "all", x.table, numbers...)
}

func (x *both) encap(n int, frame []byte) Packet {
	x.t.Helper()
	p, err := x.table.Encap(n, frame)
	if want, wrong := x.plain.encap(n, frame); !samePacket(p, want) || samples.Text(err) != wrong {
		x.t.Fatalf("Encap(%d) of %d bytes: got %+v, %v, want %+v, %s", n, len(frame), p, err, want, wrong)
	}
	x.told["Encap: "+samples.Text(err)]++
	return p
}

func (x *both) decap(p Packet) {
	x.t.Helper()
	n, frame, err := x.table.Decap(p)
	if want, b, wrong := x.plain.decap(p); n != want || !bytes.Equal(frame, b) || samples.Text(err) != wrong {
		x.t.Fatalf("Decap(%+v): got %d, %.40X, %v, want %d, %.40X, %s", p, n, frame, err, want, b, wrong)
	}
	x.told["Decap: "+samples.Text(err)]++
}

// someOptions have few Classes and Types, so that many are Known.
func someOptions(n *samples.Noise) []api.Option {
	var l []api.Option
	for range n.Of(0, 1, 1, 2, 3) {
		l = append(l, api.Option{Class: uint16(n.Below(2)), Type: uint8(n.Of(1, 0x80, 0x81)), B: n.Bytes(4 * n.Below(3))})
	}
	return l
}

// someTunnel is one of few, so that many are the same, and most are right.
func someTunnel(n *samples.Noise) Tunnel {
	x := Tunnel{Kind: 1 + n.Below(3), Local: here, Peer: there, ID: uint32(n.Below(6)), Segment: n.Below(8), Sum: n.Below(2) == 0, Seq: n.Below(3) > 0}
	if n.Below(3) == 0 {
		x.Peer += api.IP(n.Below(4))
	}
	if n.Below(20) == 0 {
		x.Local, x.Peer = x.Peer, x.Local
	}
	if x.Kind == 2 {
		x.Options = someOptions(n)
	}
	for range n.Below(4) {
		x.Known = append(x.Known, uint32(n.Of(0x80, 0x81, 0x180, 0x181, 0x1000080)))
	}
	switch n.Below(60) {
	case 0:
		x.Kind = n.Of(0, 4, -1)
	case 1:
		x.Local = 0
	case 2:
		x.Peer = 0
	case 3:
		x.ID = uint32(n.Of(1<<24-1, 1<<24, 1<<30))
	case 4:
		x.Segment = n.Of(-1, 8)
	case 5:
		x.Options = append(x.Options, api.Option{B: make([]byte, n.Of(0, 3, 124, 128))})
	}
	return x
}

// somePacket is of one of few tunnels, by the layers below; or what a tunnel of
// the other end made; and of some a bit is turned, or the end is cut off.
func somePacket(n *samples.Noise, made []Packet) Packet {
	p := Packet{Src: there, Dst: here, Proto: 17, SrcPort: uint16(n.Of(0, 4789, 6081)), B: nil}
	if n.Below(3) == 0 {
		p.Src += api.IP(n.Below(4))
	}
	id, frame := uint32(n.Below(6)), n.Bytes(14+n.Below(30))
	switch n.Below(4) {
	case 0:
		p.DstPort = 4789
		p.B, _ = vxlan.Encap(id, frame)
	case 1:
		p.DstPort = 6081
		p.B, _ = geneve.Encap(id, someOptions(n), frame)
	case 2:
		p.Proto = 47
		p.B, _ = gre.Encap(gre.Header{Sum: n.Below(2) == 0, Keyed: n.Below(8) > 0, Key: id, Seqed: n.Below(4) > 0, Seq: uint32(n.Below(16)) << 28}, frame)
	default:
		if len(made) > 0 {
			p = made[n.Below(len(made))]
			p.Src, p.Dst, p.B = p.Dst, p.Src, bytes.Clone(p.B)
		}
	}
	switch n.Below(20) {
	case 0:
		p.Proto ^= 1 << n.Below(8)
	case 1:
		p.DstPort ^= 1 << n.Below(16)
	case 2:
		p.Src, p.Dst = p.Dst, p.Src
	case 3:
		p.B = p.B[:n.Below(len(p.B)+1)]
	case 4, 5:
		if len(p.B) > 0 {
			p.B[n.Below(min(len(p.B), 20))] ^= 1 << n.Below(8)
		}
	}
	return p
}

func TestTablesDoAsTheWordsSay(t *testing.T) {
	told := map[string]int{}
	for round := range 60 {
		n := samples.Noise(round)
		x := &both{t: t, table: New(), told: told}
		var made []Packet
		dels := n.Of(2, 10, 50)
		for range 1500 {
			number := n.Below(x.plain.given+2) - 1
			switch n.Below(7) {
			case 0, 1:
				x.add(someTunnel(&n))
			case 2:
				if n.Below(dels) == 0 {
					x.del(number)
				}
			case 3:
				x.look(number)
			case 4:
				if p := x.encap(number, n.Bytes(n.Of(13, 14, 40, 40))); p.B != nil {
					made = append(made, p)
				}
			default:
				p := somePacket(&n, made)
				x.decap(p)
				if n.Below(3) == 0 {
					x.decap(p)
				}
			}
		}
	}
	for _, what := range []string{
		"Add: error 0", "Add: error 1", "Add: error 5", "Add: error 8", "Del: error 0", "Del: error 6",
		"Encap: ", "Encap: tunnel: error 6", "Encap: tunnel: vxlan: error 2", "Encap: tunnel: geneve: error 2", "Encap: tunnel: gre: error 2",
		"Decap: ", "Decap: tunnel: error 12", "Decap: tunnel: vxlan: octets: error 2", "Decap: tunnel: geneve: octets: error 2", "Decap: tunnel: gre: octets: error 2",
		"Decap: tunnel: vxlan: error 2", "Decap: tunnel: geneve: error 3", "Decap: tunnel: gre: error 4",
		"Decap: tunnel: error 9", "Decap: tunnel: error 10", "Decap: tunnel: error 11", "Decap: tunnel: error 13",
	} {
		if told[what] == 0 {
			t.Errorf("never told: %s", what)
		}
	}
}

// fuzzed is a table with some tunnels of each Kind.
func fuzzed(t *testing.T) *both {
	x := &both{t: t, table: New(), told: map[string]int{}}
	for _, kind := range kinds {
		x.add(some(kind, 5))
		x.add(some(kind, 0))
		x.add(full(kind))
		x.add(with(full(kind), func(x *Tunnel) { x.Peer = other }))
	}
	return x
}

func FuzzDecap(f *testing.F) {
	for _, c := range packets {
		f.Add(c.p.Proto, c.p.DstPort, true, append(bytes.Clone(c.p.B), c.frame...))
	}
	for _, p := range []Packet{withIDOf(1, 5), withIDOf(2, 0), withIDOf(3, 0), withHeader(gre.Header{}), withSeq(0xABCDEF, 7), withOptions(0xABCDEF, api.Option{Class: 0x0102, Type: 0x80}), withOptions(0xABCDEF, api.Option{Type: 0x80})} {
		f.Add(p.Proto, p.DstPort, true, p.B)
		f.Add(p.Proto, p.DstPort, false, p.B)
	}
	f.Fuzz(func(t *testing.T, proto uint8, port uint16, known bool, b []byte) {
		x, p := fuzzed(t), Packet{Src: there, Dst: here, Proto: proto, DstPort: port, B: b}
		if !known {
			p.Src = other
		}
		x.decap(p)
		x.decap(p)
		p.Proto = 47
		x.decap(p)
		p.Proto, p.DstPort = 17, 4789
		x.decap(p)
		p.DstPort = 6081
		x.decap(p)
	})
}

func FuzzEncap(f *testing.F) {
	for _, size := range []int{0, 11, 12, 13, 14, 33, 34, 60} {
		f.Add(samples.Frame(size))
		f.Add(ipv4(size))
	}
	f.Add(echo)
	f.Fuzz(func(t *testing.T, frame []byte) {
		wantPort(t, "any bytes", frame, plainPort(frame))
		x := fuzzed(t)
		for n := range 13 {
			x.encap(n, frame)
			x.encap(n, frame)
		}
	})
}
