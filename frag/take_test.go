package frag

import (
	"bytes"
	"math"
	"runtime"
	"testing"

	"underpass/api"
	"underpass/ipv4"
)

func TestTakeOfAPacketThatIsNotRight(t *testing.T) {
	for i, f := range faults {
		r := New(30)
		wantNotWhole(t, f.name, r, faulty(0, i), 0, ofRight(f.code))
		wantLen(t, f.name, r, 0)
		// It is told ahead of what it does to a heap that is its own, and of
		// there being no room.
		r = eight(t, 30)
		wantNotWhole(t, f.name+", and a heap of its own", r, faulty(3, i), 200, ofRight(f.code))
		wantNotWhole(t, f.name+", and no room", r, faulty(8, i), 200, ofRight(f.code))
		wantEight(t, f.name, r)
	}
}

func TestTakeOfNoPart(t *testing.T) {
	for _, size := range []int{0, 1, 7, 8, 9, 1500, 65515} {
		for _, dont := range []bool{false, true} {
			p := packet(3, size)
			p.DF = dont
			r := New(30)
			wantWhole(t, "no part", r, p, 0, p)
			wantLen(t, "no part", r, 0)
			r = eight(t, 30)
			wantWhole(t, "no part, where eight heaps wait", r, p, 200, p)
			p.ID = 99
			wantWhole(t, "no part, and of no heap", r, p, 200, p)
			wantEight(t, "no part", r)
		}
	}
	wantWhole(t, "the zero packet", New(30), ipv4.Packet{}, 0, ipv4.Packet{})
}

func TestTakeOfTwoParts(t *testing.T) {
	p, first, second := halves(0)
	r := New(30)
	wantWaits(t, "the first", r, 0, first)
	wantLen(t, "the first", r, 1)
	wantWhole(t, "the second", r, second, 0, p)
	wantLen(t, "whole", r, 0)
	wantWaits(t, "the second first", r, 0, second)
	wantLen(t, "the second first", r, 1)
	wantWhole(t, "the first behind it", r, first, 0, p)
	wantLen(t, "whole again", r, 0)
}

// orders are all those of n things.
func orders(n int) [][]int {
	if n == 0 {
		return [][]int{nil}
	}
	var all [][]int
	for _, o := range orders(n - 1) {
		for at := range n {
			all = append(all, append(append(append([]int{}, o[:at]...), n-1), o[at:]...))
		}
	}
	return all
}

func TestTakeOfPartsInEachOrder(t *testing.T) {
	p := packet(0, 196)
	parts, _ := Split(p, 68)
	if len(parts) != 5 {
		t.Fatal(len(parts))
	}
	r := New(30)
	for _, order := range orders(5) {
		for i, n := range order {
			if i < 4 {
				wantWaits(t, "a part", r, 0, parts[n])
				wantLen(t, "a part", r, 1)
			} else {
				wantWhole(t, "the last of them", r, parts[n], 0, p)
				wantLen(t, "the last of them", r, 0)
			}
		}
	}
}

func TestTakeOfPartsThatComeTwice(t *testing.T) {
	p, first, second := halves(0)
	r := New(30)
	wantWaits(t, "the first, three times", r, 0, first, first, first)
	wantLen(t, "the first, three times", r, 1)
	wantWhole(t, "the second", r, second, 0, p)
	wantWaits(t, "the second, three times", r, 0, second, second, second)
	wantLen(t, "the second, three times", r, 1)
	wantWhole(t, "the first", r, first, 0, p)
	wantLen(t, "the first", r, 0)
	// What comes behind a whole one begins another heap.
	wantWaits(t, "the first behind it", r, 0, first)
	wantLen(t, "the first behind it", r, 1)
	wantWhole(t, "and once more whole", r, second, 0, p)
}

// Parts belong together by four fields; where one is another one they do not.
func TestTakeOfPartsOfOthers(t *testing.T) {
	p, first, second := halves(0)
	for _, x := range []struct {
		name  string
		other func(q *ipv4.Packet)
	}{
		{"Src", func(q *ipv4.Packet) { q.Src ^= 1 }},
		{"Src, the highest bit", func(q *ipv4.Packet) { q.Src ^= 1 << 31 }},
		{"Dst", func(q *ipv4.Packet) { q.Dst ^= 1 }},
		{"Dst, the highest bit", func(q *ipv4.Packet) { q.Dst ^= 1 << 31 }},
		{"Src and Dst, turned round", func(q *ipv4.Packet) { q.Src, q.Dst = q.Dst, q.Src }},
		{"Proto", func(q *ipv4.Packet) { q.Proto ^= 1 }},
		{"Proto, the highest bit", func(q *ipv4.Packet) { q.Proto ^= 1 << 7 }},
		{"ID", func(q *ipv4.Packet) { q.ID ^= 1 }},
		{"ID, the highest bit", func(q *ipv4.Packet) { q.ID ^= 1 << 15 }},
	} {
		r := New(30)
		q, otherFirst, otherSecond := p, turned(first, 0), second
		x.other(&q)
		x.other(&otherFirst)
		x.other(&otherSecond)
		q.B = append(bytes.Clone(otherFirst.B), otherSecond.B...)
		wantWaits(t, "another "+x.name, r, 0, first, otherSecond)
		wantLen(t, "another "+x.name, r, 2)
		wantWhole(t, "another "+x.name, r, otherFirst, 0, q)
		wantLen(t, "another "+x.name, r, 1)
		wantWhole(t, "another "+x.name, r, second, 0, p)
		wantLen(t, "another "+x.name, r, 0)
	}
}

// No field but those four tells parts of one packet from those of another, and
// what is whole has those of the first one of those whose Off is 0.
func TestTakeTellsTheFieldsOfTheFirst(t *testing.T) {
	p := packet(0, 40)
	one, two, three := piece(p, 0, 16, true), piece(p, 16, 32, true), piece(p, 32, 40, false)
	one.TOS, one.TTL, one.DF = 1, 11, true
	two.TOS, two.TTL = 2, 12
	three.TOS, three.TTL, three.DF = 3, 13, true
	again, longer := one, piece(p, 0, 24, true)
	again.TOS, again.TTL, again.DF = 4, 14, false
	longer.TOS, longer.TTL, longer.DF = 5, 15, false
	want := p
	want.TOS, want.TTL, want.DF = 1, 11, true
	for _, l := range [][]ipv4.Packet{
		{one, two, three},
		{three, two, one},
		{two, three, one},
		{two, one, three},
		{one, again, two, three},
		{one, longer, again, two, again, three},
		{two, one, longer, three},
	} {
		r := New(30)
		wantWaits(t, "a part", r, 0, l[:len(l)-1]...)
		wantWhole(t, "the last of them", r, l[len(l)-1], 0, want)
	}
	want.TOS, want.TTL, want.DF = 5, 15, false
	r := New(30)
	wantWaits(t, "the longer one", r, 0, three, longer, one)
	wantWhole(t, "the longer one", r, two, 0, want)
	want.TOS, want.TTL = 4, 14
	wantWaits(t, "the other one", r, 0, again, one, longer, three)
	wantWhole(t, "the other one", r, two, 0, want)
}

func TestTakeOfPartsThatOverlap(t *testing.T) {
	p := packet(0, 60)
	for _, l := range [][]ipv4.Packet{
		{piece(p, 0, 32, true), piece(p, 16, 60, false)},
		{piece(p, 16, 60, false), piece(p, 0, 32, true)},
		{piece(p, 8, 16, true), piece(p, 16, 60, false), piece(p, 0, 56, true)},
		{piece(p, 0, 56, true), piece(p, 8, 16, true), piece(p, 0, 8, true), piece(p, 48, 60, false)},
		{piece(p, 8, 40, true), piece(p, 0, 16, true), piece(p, 24, 60, false)},
		{piece(p, 24, 60, false), piece(p, 56, 60, false), piece(p, 32, 56, true), piece(p, 0, 16, true), piece(p, 8, 48, true)},
		{piece(p, 0, 8, true), piece(p, 16, 24, true), piece(p, 32, 40, true), piece(p, 48, 60, false), piece(p, 8, 56, true)},
	} {
		r := New(30)
		wantWaits(t, "a part", r, 0, l[:len(l)-1]...)
		wantLen(t, "a part", r, 1)
		wantWhole(t, "the last of them", r, l[len(l)-1], 0, p)
		wantLen(t, "the last of them", r, 0)
	}
}

// One byte that is another one spoils a heap, wherever the overlap is. None of
// these parts ends the packet, so that it is never whole.
func TestTakeOfPartsOfWhichOneByteIsAnother(t *testing.T) {
	p := packet(0, 72)
	for off := 0; off < 72; off += 8 {
		for end := off + 8; end <= 72; end += 8 {
			for at := off; at < end; at++ {
				r := New(30)
				wantWaits(t, "the first ones", r, 0, piece(p, 8, 24, true), piece(p, 40, 64, true))
				q := turned(piece(p, off, end, true), at-off)
				if at >= 8 && at < 24 || at >= 40 && at < 64 {
					wantNotWhole(t, "another byte", r, q, 0, of(api.ErrForm))
					wantLen(t, "another byte", r, 0)
				} else {
					wantWaits(t, "a byte that is there once", r, 0, q)
					wantLen(t, "a byte that is there once", r, 1)
				}
			}
		}
	}
}

// Nothing of a heap that is gone waits any more, nor what spoilt it.
func TestTakeBehindAHeapThatIsSpoilt(t *testing.T) {
	p, first, second := halves(0)
	r := New(30)
	wantWaits(t, "the first", r, 0, first)
	wantNotWhole(t, "another byte", r, turned(first, 15), 0, of(api.ErrForm))
	wantWaits(t, "the second alone", r, 0, second)
	wantLen(t, "the second alone", r, 1)
	wantWhole(t, "the first once more", r, first, 0, p)
	wantWaits(t, "the second", r, 0, second)
	wantNotWhole(t, "another byte", r, turned(second, 7), 0, of(api.ErrForm))
	wantWaits(t, "the other one", r, 0, turned(second, 7))
	p.B[23] ^= 0x40
	wantWhole(t, "the other one", r, first, 0, p)
}

// A part that would make its heap whole spoils it, if it does not go with it.
func TestTakeOfALastPartThatDoesNotGo(t *testing.T) {
	p := packet(0, 40)
	r := New(30)
	wantWaits(t, "all but the middle", r, 0, piece(p, 0, 16, true), piece(p, 24, 40, false))
	wantNotWhole(t, "the middle", r, turned(piece(p, 8, 32, true), 0), 0, of(api.ErrForm))
	wantLen(t, "the middle", r, 0)
}

func TestTakeOfEnds(t *testing.T) {
	p := packet(0, 80)
	for _, x := range []struct {
		name          string
		first, second ipv4.Packet
		goes          bool
	}{
		{"not MF, and another one ends behind it", piece(p, 48, 56, true), piece(p, 40, 48, false), false},
		{"one byte ahead", piece(p, 48, 56, true), piece(p, 48, 55, false), false},
		{"at the same place", piece(p, 48, 56, true), piece(p, 40, 56, false), true},
		{"one byte behind", piece(p, 48, 56, true), piece(p, 40, 57, false), true},
		{"far behind", piece(p, 48, 56, true), piece(p, 72, 80, false), true},
		{"both not MF, at the same place", piece(p, 40, 57, false), piece(p, 48, 57, false), true},
		{"both not MF, one byte apart", piece(p, 40, 57, false), piece(p, 48, 58, false), false},
		{"both not MF, and apart", piece(p, 40, 48, false), piece(p, 64, 72, false), false},
		{"without bytes, and another one ends behind it", piece(p, 40, 48, true), piece(p, 40, 40, false), false},
		{"without bytes, at the same place", piece(p, 40, 48, true), piece(p, 48, 48, false), true},
		{"without bytes, and both not MF, at the same place", piece(p, 40, 48, false), piece(p, 48, 48, false), true},
		{"without bytes, and both not MF, one byte apart", piece(p, 40, 49, false), piece(p, 48, 48, false), false},
		{"without bytes, twice", piece(p, 48, 48, false), piece(p, 48, 48, false), true},
		{"without bytes, and apart", piece(p, 48, 48, false), piece(p, 56, 56, false), false},
		{"both MF, and apart", piece(p, 40, 48, true), piece(p, 64, 72, true), true},
	} {
		for range 2 {
			r := New(30)
			wantWaits(t, x.name, r, 0, x.first)
			if x.goes {
				wantWaits(t, x.name, r, 0, x.second)
				wantLen(t, x.name, r, 1)
			} else {
				wantNotWhole(t, x.name, r, x.second, 0, of(api.ErrForm))
				wantLen(t, x.name, r, 0)
			}
			x.first, x.second = x.second, x.first
		}
	}
}

// An end is held against those of all that wait, not of the last one alone.
func TestTakeOfEndsOfSeveral(t *testing.T) {
	p := packet(0, 80)
	r := New(30)
	wantWaits(t, "three parts", r, 0, piece(p, 8, 16, true), piece(p, 64, 72, true), piece(p, 24, 32, true))
	wantNotWhole(t, "ahead of the second", r, piece(p, 40, 48, false), 0, of(api.ErrForm))
	wantLen(t, "ahead of the second", r, 0)
	wantWaits(t, "three parts, one of which is not MF", r, 0, piece(p, 8, 16, true), piece(p, 48, 56, false), piece(p, 24, 32, true))
	wantNotWhole(t, "behind the second", r, piece(p, 56, 64, true), 0, of(api.ErrForm))
	wantLen(t, "behind the second", r, 0)
}

// A packet is whole when its last hole is filled, and no byte earlier.
func TestTakeOfPartsWithHoles(t *testing.T) {
	p := packet(0, 77)
	for hole := 0; hole < 72; hole += 8 {
		r := New(30)
		for off := 0; off < 72; off += 8 {
			if off != hole {
				wantWaits(t, "all but one", r, 0, piece(p, off, off+8, true))
			}
		}
		wantWaits(t, "all but one, once more", r, 0, piece(p, 72, 77, false), piece(p, 72, 77, false))
		wantLen(t, "all but one", r, 1)
		wantWhole(t, "the hole", r, piece(p, hole, hole+8, true), 0, p)
		wantLen(t, "the hole", r, 0)
	}
	// Nothing but the end is missing.
	r := New(30)
	wantWaits(t, "no end", r, 0, piece(p, 0, 72, true), piece(p, 64, 72, true))
	wantWhole(t, "the end", r, piece(p, 72, 77, false), 0, p)
	q := piece(p, 0, 72, false)
	wantWaits(t, "no end", r, 0, piece(p, 0, 72, true))
	wantWhole(t, "an end without bytes", r, piece(p, 72, 72, false), 0, q)
	wantWaits(t, "an end without bytes", r, 0, piece(p, 72, 72, false), piece(p, 8, 72, true))
	wantWhole(t, "an end without bytes", r, piece(p, 0, 8, true), 0, q)
	wantWaits(t, "no end", r, 0, piece(p, 0, 72, true))
	wantWhole(t, "an end with bytes that are there", r, piece(p, 64, 72, false), 0, q)
}

func TestTakeOfANinth(t *testing.T) {
	r := eight(t, 30)
	p, first, second := halves(8)
	wantNotWhole(t, "the ninth", r, first, 200, of(api.ErrFull))
	wantNotWhole(t, "the ninth", r, second, 200, of(api.ErrFull))
	wantEight(t, "the ninth", r)
	// What was refused does not wait.
	wantWaits(t, "the ninth's second half", r, 0, second)
	wantLen(t, "the ninth's second half", r, 1)
	wantWhole(t, "the ninth", r, first, 0, p)
}

func TestTakeOfANinthWhereOneWasWhole(t *testing.T) {
	r := eight(t, 30)
	whole, _, last := halves(5)
	p, first, second := halves(8)
	wantWhole(t, "the sixth", r, last, 0, whole)
	wantLen(t, "the sixth", r, 7)
	wantWaits(t, "the ninth", r, 0, first)
	wantLen(t, "the ninth", r, 8)
	_, tenth, _ := halves(9)
	wantNotWhole(t, "the tenth", r, tenth, 0, of(api.ErrFull))
	wantNotWhole(t, "the sixth once more", r, last, 0, of(api.ErrFull))
	wantWhole(t, "the ninth", r, second, 0, p)
	wantLen(t, "the ninth", r, 7)
}

func TestTakeOfANinthWhereOneWasSpoilt(t *testing.T) {
	r := eight(t, 30)
	_, spoilt, _ := halves(2)
	wantNotWhole(t, "the third", r, turned(spoilt, 9), 0, of(api.ErrForm))
	wantLen(t, "the third", r, 7)
	p, first, second := halves(8)
	wantWaits(t, "the ninth", r, 0, second)
	wantLen(t, "the ninth", r, 8)
	wantNotWhole(t, "the third once more", r, spoilt, 0, of(api.ErrFull))
	wantWhole(t, "the ninth", r, first, 0, p)
}

// Parts of heaps that wait are taken where there is no room for another one.
func TestTakeOfPartsOfTheEight(t *testing.T) {
	r := eight(t, 30)
	for n := range 8 {
		_, first, _ := halves(n)
		wantWaits(t, "once more", r, 500, first)
	}
	wantEight(t, "once more", r)
}

func TestTakeOfTheLargestPacket(t *testing.T) {
	p := packet(0, 65515)
	r := New(30)
	wantWaits(t, "the end", r, 0, piece(p, 65512, 65515, false))
	wantWhole(t, "all else", r, piece(p, 0, 65512, true), 0, p)
	wantWaits(t, "all else", r, 0, piece(p, 0, 65512, true))
	wantWhole(t, "the end", r, piece(p, 65512, 65515, false), 0, p)
	wantWaits(t, "all but the end", r, 0, piece(p, 0, 65504, true), piece(p, 65504, 65512, true))
	wantWhole(t, "an end without bytes", r, piece(p, 65512, 65512, false), 0, piece(p, 0, 65512, false))
	wantLen(t, "all", r, 0)
}

// No time makes parts wait for less: they go by Tick alone.
func TestTakeAtAnyTime(t *testing.T) {
	p, first, second := halves(0)
	for _, began := range []uint64{0, 100, math.MaxUint64} {
		for _, now := range []uint64{0, 99, 131, math.MaxUint64} {
			for _, timeout := range []uint64{0, 1, 30} {
				r := New(timeout)
				wantWaits(t, "the first", r, began, first)
				wantWhole(t, "the second", r, second, now, p)
			}
		}
	}
	r := eight(t, 0)
	_, ninth, _ := halves(8)
	wantNotWhole(t, "heaps that are old, but there", r, ninth, math.MaxUint64, of(api.ErrFull))
	wantEight(t, "heaps that are old, but there", r)
}

// What waits is a copy, and so is what is told.
func TestTakeSharesNothing(t *testing.T) {
	p, first, second := halves(0)
	r := New(30)
	room := append(bytes.Clone(first.B), 0xAA, 0xAA)
	want := bytes.Clone(room)
	first.B = room[:16]
	wantWaits(t, "the first", r, 0, first)
	if !bytes.Equal(room, want) {
		t.Fatalf("the first was written over: % X", room)
	}
	clear(room)
	got, whole, err := r.Take(second, 0)
	if err != nil || !whole || !same(got, p) {
		t.Fatalf("the first was written over: %s, %v, %v", short(got), whole, err)
	}
	clear(append(got.B, 9, 9, 9, 9, 9, 9, 9, 9))
	clear(got.B)
	if !bytes.Equal(second.B, p.B[16:]) {
		t.Fatal("what is told shares bytes with the last part")
	}
	clear(second.B)
	_, first, second = halves(0)
	wantWaits(t, "the second", r, 0, second)
	wantWhole(t, "once more", r, first, 0, p)
}

func TestTakeOfNoPartSharesNothing(t *testing.T) {
	room := append(filling(0, 20), 0xAA, 0xAA)
	p := packet(0, 20)
	p.B = room[:20]
	r := New(30)
	got, _, _ := r.Take(p, 0)
	clear(append(got.B, 9, 9))
	clear(got.B)
	if !bytes.Equal(room, append(filling(0, 20), 0xAA, 0xAA)) {
		t.Fatalf("it was written over: % X", room)
	}
	got, _, _ = r.Take(p, 0)
	clear(room)
	if !bytes.Equal(got.B, filling(0, 20)) {
		t.Fatalf("it shares bytes: % X", got.B)
	}
}

// What is whole stays so, whatever comes behind it, and whatever is done to it.
func TestTakeOfOnesThatAreWholeAtOnce(t *testing.T) {
	r := New(30)
	var told []ipv4.Packet
	for n := range 8 {
		_, first, second := halves(n)
		wantWaits(t, "the first", r, 0, first)
		got, whole, err := r.Take(second, 0)
		if err != nil || !whole {
			t.Fatal(n, whole, err)
		}
		told = append(told, got)
	}
	for n, got := range told {
		p, _, _ := halves(n)
		if !same(got, p) {
			t.Fatalf("%d: %s", n, short(got))
		}
		clear(append(got.B, 9, 9, 9, 9, 9, 9, 9, 9))
		clear(got.B)
	}
}

// What does not go is left as it was, too.
func TestTakeLeavesWhatItRefuses(t *testing.T) {
	r := eight(t, 30)
	_, first, second := halves(8)
	for _, p := range []ipv4.Packet{first, second, faulty(0, 0), turned(piece(packet(0, 24), 0, 16, true), 3)} {
		want := bytes.Clone(p.B)
		if _, _, err := r.Take(p, 0); err == nil || !bytes.Equal(p.B, want) {
			t.Fatalf("%s: %v", short(p), err)
		}
	}
}

// Parts that come again take no more room: if each were kept, they would take
// some 200 MB.
func TestTakeOfAPartOverAndOver(t *testing.T) {
	p := packet(0, 65515)
	first := piece(p, 0, 65512, true)
	r := New(30)
	before := inUse()
	for range 3000 {
		wantWaits(t, "the first", r, 0, first)
	}
	if more := inUse() - before; more > 10<<20 {
		t.Fatalf("%d bytes are kept", more)
	}
	wantLen(t, "the first", r, 1)
	wantWhole(t, "the end", r, piece(p, 65512, 65515, false), 0, p)
}

func inUse() int64 {
	var m runtime.MemStats
	runtime.GC()
	runtime.ReadMemStats(&m)
	return int64(m.HeapAlloc)
}
