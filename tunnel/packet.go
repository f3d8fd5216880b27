package tunnel

import (
	"slices"

	"underpass/api"
	"underpass/geneve"
	"underpass/gre"
	"underpass/vxlan"
)

// What a frame's flow is told by: between which addresses it goes, and if it is
// IPv4, of which protocol and between which of that one's addresses.
const (
	endAddresses = 12
	typeAt       = 12
	protoAt      = 23
	ipsAt        = 26
	endIPs       = 34
)

const (
	firstPort = 49152
	ports     = 16384

	// Of FNV-1a, of 32 bits.
	beginFlow = 2166136261
	timesFlow = 16777619
)

// Packet is one of the underlay (N2).
type Packet struct {
	Src, Dst         api.IP
	Proto            uint8
	SrcPort, DstPort uint16
	B                []byte
}

// content is what a packet's bytes tell. The id of a VXLAN or Geneve header
// stands as a Key does, so that an id is asked for in one way.
type content struct {
	gre.Header
	options []api.Option
	frame   []byte
}

// Port is the one that packets with frames of one flow come from (N2).
func Port(frame []byte) uint16 {
	n := flow(beginFlow, frame[:min(len(frame), endAddresses)])
	if isIPv4(frame) {
		n = flow(n, frame[protoAt:protoAt+1])
		n = flow(n, frame[ipsAt:endIPs])
	}
	return firstPort + uint16(n%ports)
}

// Encap is the packet that a tunnel makes of a frame (N2).
func (t *Table) Encap(n int, frame []byte) (Packet, error) {
	i := t.place(n)
	if i < 0 {
		return Packet{}, api.Wrap(layer, api.ErrNone)
	}
	e := t.entries[i]
	b, err := e.pack(frame)
	if err != nil {
		return Packet{}, api.Wrap(layer, err)
	}
	e.sent++
	return e.packet(frame, b), nil
}

// Decap is the number of the tunnel that a packet comes out of, and the frame
// in it (N2).
func (t *Table) Decap(p Packet) (int, []byte, error) {
	kind := kindOf(p)
	c, err := unpack(kind, p.B)
	if err != nil {
		return 0, nil, api.Wrap(layer, err)
	}
	e, err := t.find(ends{kind, p.Dst, p.Src}, c)
	if err != nil {
		return 0, nil, api.Wrap(layer, err)
	}
	if err := e.accept(c); err != nil {
		return 0, nil, api.Wrap(layer, err)
	}
	return e.number, c.frame, nil
}

// flow is the number of bytes behind those of which it is n so far.
func flow(n uint32, b []byte) uint32 {
	for _, x := range b {
		n = (n ^ uint32(x)) * timesFlow
	}
	return n
}

func isIPv4(frame []byte) bool {
	return len(frame) >= endIPs && uint16(frame[typeAt])<<8|uint16(frame[typeAt+1]) == api.TypeIPv4
}

// pack is the bytes that stand in a packet.
func (e *entry) pack(frame []byte) ([]byte, error) {
	switch e.Kind {
	case api.VXLAN:
		return vxlan.Encap(e.ID, frame)
	case api.Geneve:
		return geneve.Encap(e.ID, e.Options, frame)
	}
	return gre.Encap(gre.Header{Sum: e.Sum, Keyed: true, Key: e.ID, Seqed: e.Seq, Seq: e.sent}, frame)
}

func (e *entry) packet(frame, b []byte) Packet {
	p := Packet{Src: e.Local, Dst: e.Peer, Proto: api.UDP, SrcPort: Port(frame), B: b}
	switch e.Kind {
	case api.VXLAN:
		p.DstPort = api.PortVXLAN
	case api.Geneve:
		p.DstPort = api.PortGeneve
	case api.GRE:
		p.Proto, p.SrcPort = api.ProtoGRE, 0
	}
	return p
}

// kindOf is 0 of a packet that is of none.
func kindOf(p Packet) int {
	switch {
	case p.Proto == api.ProtoGRE:
		return api.GRE
	case p.Proto == api.UDP && p.DstPort == api.PortVXLAN:
		return api.VXLAN
	case p.Proto == api.UDP && p.DstPort == api.PortGeneve:
		return api.Geneve
	}
	return 0
}

func unpack(kind int, b []byte) (content, error) {
	switch kind {
	case api.VXLAN:
		id, frame, err := vxlan.Decap(b)
		return content{Header: withID(id), frame: frame}, err
	case api.Geneve:
		id, l, frame, err := geneve.Decap(b)
		return content{withID(id), l, frame}, err
	case api.GRE:
		h, frame, err := gre.Decap(b)
		return content{Header: h, frame: frame}, err
	}
	return content{}, api.ErrProto
}

func withID(id uint32) gre.Header { return gre.Header{Keyed: true, Key: id} }

// accept asks the order last, since that is changed by what it accepts.
func (e *entry) accept(c content) error {
	if slices.ContainsFunc(c.options, e.isStrange) {
		return api.ErrOption
	}
	if e.Seq && c.Seqed && !e.order.Accept(c.Seq) {
		return api.ErrLate
	}
	return nil
}

// isStrange tells whether an option is one that must be understood, and is not.
func (e *entry) isStrange(o api.Option) bool {
	return geneve.Critical(o) && !slices.Contains(e.Known, uint32(o.Class)<<8|uint32(o.Type))
}
