package frag

import (
	"bytes"
	"errors"
	"fmt"
	"math"
	"reflect"
	"slices"
	"testing"

	"underpass/api"
	"underpass/ipv4"
	"underpass/samples"
)

// filling is bytes that look like no row, so that none can stand in another
// one's place.
func filling(number, size int) []byte {
	n := samples.Noise(number*100003 + size)
	b := make([]byte, size)
	for i := range b {
		b[i] = byte(n.Below(256))
	}
	return b
}

// packet is one of so many bytes, whose fields are all unlike, and unlike those
// of a packet of another number.
func packet(number, size int) ipv4.Packet {
	return ipv4.Packet{TOS: 0x11, ID: 0x2100 + uint16(number), TTL: 0x31, Proto: 0x41,
		Src: 0x51525354, Dst: 0x61626364, B: filling(number, size)}
}

// piece is a part of the packet: its bytes from off to end.
func piece(p ipv4.Packet, off, end int, more bool) ipv4.Packet {
	p.Off, p.MF, p.B = off, more, bytes.Clone(p.B[off:end])
	return p
}

// turned is a part with one byte that is another one.
func turned(p ipv4.Packet, at int) ipv4.Packet {
	p.B = bytes.Clone(p.B)
	p.B[at] ^= 0x40
	return p
}

// faults are packets that are not right.
var faults = []struct {
	name string
	off  int
	more bool
	size int
	code api.Errno
}{
	{"Off -1", -1, false, 8, api.ErrArg},
	{"Off -8", -8, false, 8, api.ErrArg},
	{"Off -8, and more", -8, true, 8, api.ErrArg},
	{"the lowest Off", math.MinInt, false, 8, api.ErrArg},
	{"Off 4", 4, false, 8, api.ErrArg},
	{"Off 9, and more", 9, true, 8, api.ErrArg},
	{"the highest Off", math.MaxInt, false, 8, api.ErrArg},
	{"the highest Off of eights", math.MaxInt - 7, true, 8, api.ErrBig},
	{"more, and no bytes", 0, true, 0, api.ErrArg},
	{"more, and 7 bytes", 0, true, 7, api.ErrArg},
	{"more, and 9 bytes behind others", 8, true, 9, api.ErrArg},
	{"65536 in all", 0, false, 65516, api.ErrBig},
	{"65536 in all, by Off and bytes", 65504, false, 12, api.ErrBig},
	{"65540 in all, and more", 65512, true, 8, api.ErrBig},
	{"Off 4, and too large", 4, false, 70000, api.ErrArg},
}

// faulty is a packet of this number that is not right.
func faulty(number, fault int) ipv4.Packet {
	f := faults[fault]
	p := packet(number, f.size)
	p.Off, p.MF = f.off, f.more
	return p
}

// of is what the error of this number is, if this layer has met it.
func of(code api.Errno) error { return api.Wrap("frag", code) }

// ofRight is what it is, if ipv4 has met it.
func ofRight(code api.Errno) error { return api.Wrap("frag", api.Wrap("ipv4", code)) }

func wantError(t *testing.T, what string, got, want error) {
	t.Helper()
	if !reflect.DeepEqual(got, want) {
		t.Fatalf("%s: got %v, want %v", what, got, want)
	}
}

func same(p, q ipv4.Packet) bool {
	sameB := bytes.Equal(p.B, q.B)
	p.B, q.B = nil, nil
	return sameB && reflect.DeepEqual(p, q)
}

// short tells a packet without all of its bytes.
func short(p ipv4.Packet) string {
	return fmt.Sprintf("%d bytes at %d of ID %d, TOS %d, TTL %d, DF %v, MF %v",
		len(p.B), p.Off, p.ID, p.TOS, p.TTL, p.DF, p.MF)
}

func wantSplit(t *testing.T, what string, p ipv4.Packet, mtu int, want ...ipv4.Packet) {
	t.Helper()
	got, err := Split(p, mtu)
	if err != nil || !slices.EqualFunc(got, want, same) {
		t.Fatalf("%s: Split(%s, %d): got %d parts, %v, want %d", what, short(p), mtu, len(got), err, len(want))
	}
}

func wantNoSplit(t *testing.T, what string, p ipv4.Packet, mtu int, want error) {
	t.Helper()
	got, err := Split(p, mtu)
	wantError(t, what, err, want)
	if len(got) != 0 {
		t.Fatalf("%s: Split(%s, %d): %d parts beside %v", what, short(p), mtu, len(got), err)
	}
}

func wantWhole(t *testing.T, what string, r *Reass, p ipv4.Packet, now uint64, want ipv4.Packet) {
	t.Helper()
	got, whole, err := r.Take(p, now)
	if err != nil || !whole || !same(got, want) {
		t.Fatalf("%s: Take(%s): got %s, %v, %v, want %s", what, short(p), short(got), whole, err, short(want))
	}
}

// wantNotWhole asks for nothing beside the error, be it nil or not.
func wantNotWhole(t *testing.T, what string, r *Reass, p ipv4.Packet, now uint64, want error) {
	t.Helper()
	got, whole, err := r.Take(p, now)
	wantError(t, what, err, want)
	if whole || !reflect.DeepEqual(got, ipv4.Packet{}) {
		t.Fatalf("%s: Take(%s): got %s, %v beside %v", what, short(p), short(got), whole, err)
	}
}

func wantWaits(t *testing.T, what string, r *Reass, now uint64, parts ...ipv4.Packet) {
	t.Helper()
	for _, p := range parts {
		wantNotWhole(t, what, r, p, now, nil)
	}
}

func wantTick(t *testing.T, what string, r *Reass, now uint64, gone int) {
	t.Helper()
	if got := r.Tick(now); got != gone {
		t.Fatalf("%s: Tick(%d): got %d, want %d", what, now, got, gone)
	}
}

func wantLen(t *testing.T, what string, r *Reass, n int) {
	t.Helper()
	if got := r.Len(); got != n {
		t.Fatalf("%s: Len: got %d, want %d", what, got, n)
	}
}

// halves are the two parts of the packet of this number, that has 24 bytes.
func halves(number int) (ipv4.Packet, ipv4.Packet, ipv4.Packet) {
	p := packet(number, 24)
	return p, piece(p, 0, 16, true), piece(p, 16, 24, false)
}

// eight is a Reass where the first halves of eight packets wait, those of
// numbers 0 to 7, which began at 100, 101 and so on.
func eight(t *testing.T, timeout uint64) *Reass {
	t.Helper()
	r := New(timeout)
	for n := range 8 {
		_, first, _ := halves(n)
		wantWaits(t, "one of the first eight", r, uint64(100+n), first)
		wantLen(t, "one of the first eight", r, n+1)
	}
	return r
}

// wantEight looks at what eight made: each is whole by its second half.
func wantEight(t *testing.T, what string, r *Reass) {
	t.Helper()
	wantLen(t, what, r, 8)
	for n := range 8 {
		p, _, second := halves(n)
		wantWhole(t, what, r, second, 0, p)
		wantLen(t, what, r, 7-n)
	}
}

func TestLimits(t *testing.T) {
	if api.MaxReass != 8 {
		t.Fatal(api.MaxReass)
	}
}

func TestErrorsTellTheirLayers(t *testing.T) {
	r := eight(t, 30)
	_, ninth, _ := halves(8)
	_, first, _ := halves(0)
	noSplit := func(p ipv4.Packet, mtu int) error { _, err := Split(p, mtu); return err }
	noTake := func(p ipv4.Packet) error { _, _, err := r.Take(p, 0); return err }
	big := packet(0, 100)
	big.DF = true
	for _, x := range []struct {
		err  error
		text string
		code api.Errno
	}{
		{noSplit(packet(0, 1), 67), "frag: error 1", api.ErrArg},
		{noSplit(faulty(0, 0), 68), "frag: ipv4: error 1", api.ErrArg},
		{noSplit(faulty(0, 11), 68), "frag: ipv4: error 7", api.ErrBig},
		{noSplit(big, 68), "frag: error 7", api.ErrBig},
		{noTake(faulty(0, 0)), "frag: ipv4: error 1", api.ErrArg},
		{noTake(faulty(0, 11)), "frag: ipv4: error 7", api.ErrBig},
		{noTake(ninth), "frag: error 5", api.ErrFull},
		{noTake(turned(first, 0)), "frag: error 3", api.ErrForm},
	} {
		if x.err == nil || x.err.Error() != x.text || api.Code(x.err) != x.code || !errors.Is(x.err, x.code) {
			t.Errorf("got %v, code %d, want %q, %d", x.err, api.Code(x.err), x.text, x.code)
		}
	}
}

func TestAnEmptyReass(t *testing.T) {
	for _, timeout := range []uint64{0, 1, 30, math.MaxUint64} {
		r := New(timeout)
		wantLen(t, "empty", r, 0)
		for _, now := range []uint64{0, 1, 30, math.MaxUint64} {
			wantTick(t, "empty", r, now, 0)
		}
		wantLen(t, "empty", r, 0)
	}
}

func TestTwoReassHaveNothingToDoWithEachOther(t *testing.T) {
	p, first, second := halves(0)
	one, two := New(5), New(50)
	wantWaits(t, "the first Reass", one, 0, first)
	wantLen(t, "the second Reass", two, 0)
	wantWaits(t, "the second Reass", two, 0, second)
	wantNotWhole(t, "the first Reass", one, turned(first, 3), 0, of(api.ErrForm))
	wantLen(t, "the first Reass", one, 0)
	wantLen(t, "the second Reass", two, 1)
	wantWhole(t, "the second Reass", two, first, 0, p)
	wantWaits(t, "the first Reass", one, 0, second)
	wantWaits(t, "the second Reass", two, 0, second)
	wantTick(t, "the first Reass", one, 5, 1)
	wantTick(t, "the second Reass", two, 5, 0)
	full := eight(t, 5)
	_, ninth, _ := halves(8)
	wantNotWhole(t, "a full Reass", full, ninth, 0, of(api.ErrFull))
	wantWaits(t, "one that is not full", two, 0, ninth)
	wantTick(t, "one that is not full", two, 50, 2)
	wantEight(t, "a full Reass", full)
}
