package tunnel

import (
	"math"
	"testing"

	"underpass/api"
	"underpass/samples"
)

// listOf is a list of options with Bs of so many bytes.
func listOf(sizes ...int) []api.Option {
	var l []api.Option
	for i, n := range sizes {
		l = append(l, api.Option{Class: uint16(i), Type: 0x80, B: samples.Frame(n)})
	}
	return l
}

// wantOne asks what is told of a tunnel in an empty table.
func wantOne(t *testing.T, what string, x Tunnel, code api.Errno) {
	t.Helper()
	tb := New()
	if code != api.OK {
		wantNotAdded(t, what, tb, x, code)
		wantNumbers(t, what, tb)
		wantNotGot(t, what, tb, 0)
		return
	}
	wantAdd(t, what, tb, x, 0)
	wantNumbers(t, what, tb, 0)
	wantGot(t, what, tb, 0, x)
}

func TestKindsThatAreRight(t *testing.T) {
	for kind := -300; kind <= 300; kind++ {
		code := api.ErrArg
		if kind == 1 || kind == 2 || kind == 3 {
			code = api.OK
		}
		wantOne(t, "a kind", some(kind, 5), code)
	}
	for _, kind := range []int{math.MinInt, math.MinInt + 1, math.MinInt32, math.MaxInt32, math.MaxInt - 1, math.MaxInt, 17, 47, 4789, 6081, 1 << 8, 1<<8 + 1, 1<<16 + 2, math.MinInt + 3} {
		wantOne(t, "a kind that is none", some(kind, 5), api.ErrArg)
	}
}

// Ends that are the same are right, and so are those of a group.
func TestEndsThatAreRight(t *testing.T) {
	ips := []api.IP{0, 1, 0x0A000001, 0x7FFFFFFF, 0x80000000, 0xE0000001, 0xFFFFFFFF}
	for _, kind := range kinds {
		for _, local := range ips {
			for _, peer := range ips {
				code := api.OK
				if local == 0 || peer == 0 {
					code = api.ErrArg
				}
				wantOne(t, "ends", Tunnel{Kind: kind, Local: local, Peer: peer, ID: 5}, code)
			}
		}
	}
}

func TestIDsThatAreRight(t *testing.T) {
	for _, kind := range kinds {
		for _, id := range []uint32{0, 1, 255, 1 << 23, 1<<24 - 1} {
			wantOne(t, "an id of three bytes", some(kind, id), api.OK)
		}
		code := api.ErrArg
		if kind == api.GRE {
			code = api.OK
		}
		for _, id := range []uint32{1 << 24, 1<<24 + 1, 1 << 25, 1<<31 - 1, 1 << 31, 1<<31 + 1, 1<<32 - 1} {
			wantOne(t, "an id of four bytes", some(kind, id), code)
		}
	}
}

func TestSegmentsThatAreRight(t *testing.T) {
	for _, kind := range kinds {
		for _, n := range []int{math.MinInt, math.MinInt32, -8, -1, 8, 9, 256, 1<<32 - 1, math.MaxInt} {
			wantOne(t, "a segment that is none", with(some(kind, 5), func(x *Tunnel) { x.Segment = n }), api.ErrArg)
		}
		for n := range 8 {
			wantOne(t, "a segment", with(some(kind, 5), func(x *Tunnel) { x.Segment = n }), api.OK)
		}
	}
}

// Options that are right are for Geneve; those that are not are for none.
func TestOptionsThatAreRight(t *testing.T) {
	for _, c := range []struct {
		name  string
		l     []api.Option
		right bool
	}{
		{"one without a B", listOf(0), true},
		{"one of nothing but noughts", []api.Option{{}}, true},
		{"one of four bytes", listOf(4), true},
		{"one of 124 bytes", listOf(124), true},
		{"two that are the same", []api.Option{{Class: 1, Type: 2}, {Class: 1, Type: 2}}, true},
		{"252 bytes of two", listOf(124, 120), true},
		{"252 bytes of 63", make([]api.Option, 63), true},
		{"one byte", listOf(1), false},
		{"two bytes", listOf(2), false},
		{"three bytes", listOf(3), false},
		{"five bytes", listOf(5), false},
		{"123 bytes", listOf(123), false},
		{"125 bytes", listOf(125), false},
		{"128 bytes", listOf(128), false},
		{"a last one of one byte", listOf(0, 4, 1), false},
		{"256 bytes of two", listOf(124, 124), false},
		{"256 bytes of 64", make([]api.Option, 64), false},
		{"a thousand", make([]api.Option, 1000), false},
	} {
		for _, kind := range kinds {
			code := api.ErrArg
			if kind == api.Geneve && c.right {
				code = api.OK
			}
			wantOne(t, c.name, with(some(kind, 5), func(x *Tunnel) { x.Options = c.l }), code)
		}
	}
	for _, kind := range kinds {
		for _, l := range [][]api.Option{nil, {}, make([]api.Option, 0, 5), listOf(4, 3)[:0]} {
			wantOne(t, "no options", with(some(kind, 5), func(x *Tunnel) { x.Options = l }), api.OK)
		}
	}
}

// What is Known, Sum and Seq are right whatever they are.
func TestWhatIsAlwaysRight(t *testing.T) {
	for _, kind := range kinds {
		for _, known := range [][]uint32{nil, {}, {0}, {1<<24 - 1, 1 << 24, 1<<32 - 1}, {5, 5, 5, 1, 5}, make([]uint32, 10000)} {
			for n := range 4 {
				x := some(kind, 5)
				x.Known, x.Sum, x.Seq = known, n%2 == 1, n/2 == 1
				wantOne(t, "a tunnel", x, api.OK)
			}
		}
		wantOne(t, "all at once", full(kind), api.OK)
	}
	wantOne(t, "nothing at all", Tunnel{}, api.ErrArg)
}

// another changes all but what makes two tunnels the same.
func another(x Tunnel) Tunnel {
	x.Segment, x.Known, x.Sum, x.Seq = 7-x.Segment, append([]uint32{77}, x.Known...), !x.Sum, !x.Seq
	if x.Kind == api.Geneve {
		x.Options = append([]api.Option{{Class: 77}}, x.Options...)
	}
	return x
}

func TestAddOfTheSameTunnel(t *testing.T) {
	for _, kind := range kinds {
		for _, x := range []Tunnel{some(kind, 0), some(kind, 5), full(kind)} {
			tb := tableOf(t, x)
			wantNotAdded(t, "the same", tb, x, api.ErrState)
			wantNotAdded(t, "the same, by what makes it so", tb, another(x), api.ErrState)
			wantNumbers(t, "the same", tb, 0)
			wantGot(t, "the same", tb, 0, x)
		}
	}
}

// Of what makes tunnels the same each alone makes another one.
func TestAddOfAnotherTunnel(t *testing.T) {
	for _, kind := range kinds {
		x := some(kind, 5)
		xs := []Tunnel{
			x,
			with(x, func(x *Tunnel) { x.Kind = kind%3 + 1 }),
			with(x, func(x *Tunnel) { x.Kind = (kind+1)%3 + 1 }),
			with(x, func(x *Tunnel) { x.Local = other }),
			with(x, func(x *Tunnel) { x.Local ^= 1 << 31 }),
			with(x, func(x *Tunnel) { x.Peer = other }),
			with(x, func(x *Tunnel) { x.Peer ^= 1 << 31 }),
			with(x, func(x *Tunnel) { x.ID = 0 }),
			with(x, func(x *Tunnel) { x.ID = 1<<23 + 5 }),
			turned(x),
			with(x, func(x *Tunnel) { x.Peer = x.Local }),
		}
		tb := tableOf(t, xs...)
		for n, x := range xs {
			wantNotAdded(t, "each again", tb, another(x), api.ErrState)
			wantGot(t, "each", tb, n, x)
		}
		wantNumbers(t, "all", tb, upTo(len(xs))...)
	}
}

func TestAddOf63And64And65(t *testing.T) {
	xs := sixtyFour()
	tb := tableOf(t, xs[:63]...)
	wantNumbers(t, "63", tb, upTo(63)...)
	wantAdd(t, "the 64th", tb, xs[63], 63)
	wantNumbers(t, "64", tb, upTo(64)...)
	wantNotAdded(t, "the 65th", tb, numbered(64), api.ErrFull)
	wantNotAdded(t, "the 65th once more", tb, full(api.Geneve), api.ErrFull)
	wantNumbers(t, "64", tb, upTo(64)...)
	for n, x := range xs {
		wantGot(t, "all are there", tb, n, x)
	}
	wantDel(t, "one goes", tb, 17, api.OK)
	wantAdd(t, "in its place", tb, numbered(64), 64)
	wantNotAdded(t, "full again", tb, xs[17], api.ErrFull)
}

// As many as there is room for may all be of one segment, and of one peer.
func TestAddOf64OfOneSegment(t *testing.T) {
	tb := New()
	for n := range 64 {
		wantAdd(t, "one of a segment and a peer", tb, some(api.GRE, uint32(n)), n)
	}
	wantNotAdded(t, "the 65th", tb, some(api.GRE, 64), api.ErrFull)
}

// wrongs are ways in which a tunnel is not right.
var wrongs = []struct {
	name   string
	change func(x *Tunnel)
}{
	{"a Kind", func(x *Tunnel) { x.Kind += 3 }},
	{"a Local", func(x *Tunnel) { x.Local = 0 }},
	{"a Peer", func(x *Tunnel) { x.Peer = 0 }},
	{"a Segment", func(x *Tunnel) { x.Segment = 8 }},
	{"a Segment below 0", func(x *Tunnel) { x.Segment = -1 }},
	{"an option", func(x *Tunnel) { x.Options = listOf(3) }},
	{"options", func(x *Tunnel) { x.Options = listOf(124, 124) }},
}

// Two faults beside each other: the first one is told.
func TestAddTellsTheFirstOfTwo(t *testing.T) {
	for _, kind := range kinds {
		one, filled := tableOf(t, some(kind, 5)), tableOf(t, sixtyFour()...)
		for _, w := range wrongs {
			wantNotAdded(t, w.name+" that is not right, of the same", one, with(some(kind, 5), w.change), api.ErrArg)
			wantNotAdded(t, w.name+" that is not right, and no room", filled, with(some(kind, 5), w.change), api.ErrArg)
			wantNotAdded(t, w.name+" that is not right, of the same, and no room", filled, with(numbered(kind), w.change), api.ErrArg)
		}
		for n := range 64 {
			wantNotAdded(t, "the same, and no room", filled, another(numbered(n)), api.ErrState)
		}
		wantNumbers(t, "one", one, 0)
		wantNumbers(t, "full", filled, upTo(64)...)
	}
	wantNotAdded(t, "an id that is not right, and no room", tableOf(t, sixtyFour()...), some(api.VXLAN, 1<<24), api.ErrArg)
}

// What Add was handed stays, also behind the ends of its lists.
func TestAddLeavesWhatItIsHanded(t *testing.T) {
	for _, kind := range kinds {
		x := full(kind)
		x.Options = append(x.Options, listOf(3, 5)...)[:len(x.Options)]
		x.Known = append(x.Known, 4, 5, 6)[:len(x.Known)]
		all := own(with(x, func(x *Tunnel) {
			x.Options, x.Known = x.Options[:len(x.Options)+2], x.Known[:len(x.Known)+3]
		}))
		tb := tableOf(t, x)
		wantNotAdded(t, "the same", tb, x, api.ErrState)
		_ = packed(t, tb, 0, echo)
		x.Options, x.Known = x.Options[:len(x.Options)+2], x.Known[:len(x.Known)+3]
		if !alike(x, all) {
			t.Fatalf("kind %d: got %+v, want %+v", kind, x, all)
		}
	}
}

// Whoever has handed a tunnel in may write over all of it.
func TestAddKeepsNothingThatItIsHanded(t *testing.T) {
	for _, kind := range kinds {
		x := full(kind)
		want := own(x)
		tb, twin := tableOf(t, x), tableOf(t, want)
		spoil(x)
		wantGot(t, "written over", tb, 0, want)
		wantPacket(t, "written over", tb, 0, echo, packed(t, twin, 0, echo))
		critical := Tunnel{Kind: api.Geneve, Local: there, Peer: here, ID: want.ID, Options: []api.Option{{Class: 0x0102, Type: 0x80}}}
		if kind == api.Geneve {
			wantFrame(t, "an option that is Known", tb, packed(t, tableOf(t, critical), 0, echo), 0, echo)
		}
	}
}

// An option of the list's own room, behind its end, is none of it.
func TestAddLooksAtNothingBehindTheEnds(t *testing.T) {
	x := some(api.Geneve, 5)
	x.Options = listOf(4, 3, 1)[:1]
	x.Known = []uint32{1, 0x000080, 3}[:1]
	wantOne(t, "lists with more in their room", x, api.OK)
	tb := tableOf(t, x)
	y := turned(some(api.Geneve, 5))
	y.Options = []api.Option{{Class: 0, Type: 0x80}}
	wantRefused(t, "what is behind the end of Known", tb, packed(t, tableOf(t, y), 0, echo), api.ErrOption)
}

// Two options that have the same bytes have their own ones in a table.
func TestAddOfOptionsThatShareBytes(t *testing.T) {
	b := []byte{1, 2, 3, 4}
	x := some(api.Geneve, 5)
	x.Options = []api.Option{{Class: 1, B: b}, {Class: 2, B: b}}
	tb := tableOf(t, x)
	got, _ := tb.Get(0)
	samples.Spoil(got.Options[0].B)
	if got.Options[1].B[0] != 1 {
		t.Fatalf("two options of one answer share bytes: %v", got.Options)
	}
	wantGot(t, "another one", tb, 0, x)
}
