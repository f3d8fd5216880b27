package cache

import (
	"math"
	"testing"

	"underpass/api"
)

func TestWaitForOneThatIsNotThere(t *testing.T) {
	c := New()
	wantWait(t, "the first", c, ip(1), packet(1), 5, true, api.OK)
	wantLen(t, "the first", c, 1)
	wantWait(t, "again", c, ip(1), packet(2), 6, false, api.OK)
	wantLen(t, "again", c, 1)
	wantWait(t, "another address", c, ip(2), packet(3), 6, true, api.OK)
	wantLen(t, "another address", c, 2)
	wantNotFound(t, "it is asked for", c, ip(1), 6)
	wantLearn(t, "both", c, ip(1), mac(1), 7, packets(1, 2), api.OK)
	wantLearn(t, "the other", c, ip(2), mac(2), 7, packets(3), api.OK)
}

// What is known is told by Find at each age, and what is too old is as if it
// were not there.
func TestWaitAtEachAge(t *testing.T) {
	for _, x := range ages {
		c := New()
		wantLearn(t, x.name, c, ip(1), mac(1), x.at, nil, api.OK)
		if x.old {
			wantWait(t, x.name, c, ip(1), packet(1), x.now, true, api.OK)
			wantNotFound(t, x.name+": it is asked for", c, ip(1), x.at)
			wantWait(t, x.name, c, ip(1), packet(2), x.now, false, api.OK)
			wantLearn(t, x.name, c, ip(1), mac(2), x.now, packets(1, 2), api.OK)
		} else {
			wantWait(t, x.name, c, ip(1), packet(1), x.now, false, api.ErrState)
			wantFound(t, x.name, c, ip(1), x.now, mac(1))
			wantLearn(t, x.name+": nothing waits", c, ip(1), mac(1), x.now, nil, api.OK)
		}
		wantLen(t, x.name, c, 1)
	}
}

// One that is asked for is, however long that is ago.
func TestWaitForOneThatIsAskedForAtAnyTime(t *testing.T) {
	for _, now := range []uint64{0, 9, 10, 10 + Again, 10 + Life, 10 + 2*Life, math.MaxUint64} {
		c := New()
		wantWait(t, "the first", c, ip(1), packet(1), 10, true, api.OK)
		wantWait(t, "the second", c, ip(1), packet(2), now, false, api.OK)
		wantLearn(t, "both", c, ip(1), mac(1), now, packets(1, 2), api.OK)
	}
}

func TestWaitOfThe4thPacketAndOfThe5th(t *testing.T) {
	c := New()
	for n := range 4 {
		wantWait(t, "one of four", c, ip(1), packet(n), 0, n == 0, api.OK)
	}
	for n := range 3 {
		wantWait(t, "the 5th", c, ip(1), packet(10+n), uint64(n), false, api.ErrFull)
		wantWait(t, "the 5th, of no bytes", c, ip(1), nil, uint64(n), false, api.ErrFull)
	}
	wantLen(t, "the 5th", c, 1)
	wantWait(t, "one for another address", c, ip(2), packet(20), 0, true, api.OK)
	wantTick(t, "asked for again", c, Again, 0, rising(ip(1), ip(2))...)
	wantWait(t, "the 5th, behind a Tick", c, ip(1), packet(30), Again, false, api.ErrFull)
	wantLearn(t, "four", c, ip(1), mac(1), 3, packets(0, 1, 2, 3), api.OK)
	wantLearn(t, "one", c, ip(2), mac(2), 3, packets(20), api.OK)
}

// The four that may wait are counted anew once those that waited are told.
func TestWaitBehindLearn(t *testing.T) {
	c := New()
	for round := range 3 {
		now := uint64(round * 2 * Life)
		for n := range 4 {
			wantWait(t, "one of four", c, ip(1), packet(10*round+n), now, n == 0, api.OK)
		}
		wantWait(t, "the 5th", c, ip(1), packet(99), now, false, api.ErrFull)
		wantLearn(t, "four", c, ip(1), mac(1), now, packets(10*round, 10*round+1, 10*round+2, 10*round+3), api.OK)
		wantWait(t, "known", c, ip(1), packet(99), now, false, api.ErrState)
	}
}

func TestWaitOfThe32ndAddressAndOfThe33rd(t *testing.T) {
	c := New()
	for n := range 32 {
		wantLen(t, "so far", c, n)
		wantWait(t, "one of 32", c, ip(n), packet(n), 0, true, api.OK)
	}
	wantWait(t, "the 33rd", c, ip(32), packet(32), 0, false, api.ErrFull)
	wantAllAsked(t, "the 33rd", c)
}

// An address that is too old goes ahead of the look for room, so that no other
// one does.
func TestWaitForOneThatIsTooOldInAFullCache(t *testing.T) {
	for old := range 32 {
		c := New()
		for n := range 32 {
			at := uint64(5)
			if n == old {
				at = 6
			}
			wantLearn(t, "one of 32", c, ip(n), mac(n), at, nil, api.OK)
		}
		wantWait(t, "too old", c, ip(old), packet(1), 6+Life, true, api.OK)
		wantLen(t, "too old", c, 32)
		for n := range 32 {
			if n != old {
				wantFound(t, "no other one goes", c, ip(n), 5, mac(n))
			}
		}
		wantNotFound(t, "it is asked for", c, ip(old), 6)
		wantLearn(t, "it is asked for", c, ip(old), mac(old), 7, packets(1), api.OK)
	}
}

func TestWaitForOneThatIsTooOldWhereAllOthersAreAskedFor(t *testing.T) {
	c := New()
	for n := range 31 {
		wantWait(t, "asked for", c, ip(n), packet(n), 5, true, api.OK)
	}
	wantLearn(t, "the 32nd", c, ip(31), mac(31), 5, nil, api.OK)
	wantWait(t, "known", c, ip(31), packet(31), 4+Life, false, api.ErrState)
	wantWait(t, "too old", c, ip(31), packet(31), 5+Life, true, api.OK)
	wantAllAsked(t, "too old", c)
}

func TestWaitInAFullCacheWithKnownOnes(t *testing.T) {
	for x, r := range rooms {
		for _, backward := range []bool{false, true} {
			c := fillRoom(t, x, backward)
			wantWait(t, r.name, c, 0x50000000, packet(1), r.now, true, api.OK)
			wantLeastGone(t, x, c)
			wantLearn(t, r.name, c, 0x50000000, mac(77), r.now, packets(1), api.OK)
		}
	}
}

func TestWaitInAFullCacheWithOneKnown(t *testing.T) {
	c := allAsked(t, 10)
	wantLearn(t, "one is known", c, ip(9), mac(9), 90, packets(9), api.OK)
	wantWait(t, "its room", c, ip(50), packet(50), 91, true, api.OK)
	wantNotFound(t, "it went", c, ip(9), 90)
	wantLen(t, "its room", c, 32)
	wantWait(t, "no room", c, ip(51), packet(51), 91, false, api.ErrFull)
	wantWait(t, "no room for the one that went", c, ip(9), packet(52), 91, false, api.ErrFull)
	for n := range 32 {
		if n != 9 {
			wantLearn(t, "asked for", c, ip(n), mac(n), 92, packets(n), api.OK)
		}
	}
	wantLearn(t, "its room", c, ip(50), mac(50), 92, packets(50), api.OK)
}

func TestWaitInAFullCacheWhereAllAreAskedFor(t *testing.T) {
	for _, now := range []uint64{0, 10, 10 + Again, 10 + Life, math.MaxUint64} {
		c := allAsked(t, 10)
		for _, to := range []api.IP{5, 0x80000005, 0xFFFFFFFF} {
			wantWait(t, "no room", c, to, packet(99), now, false, api.ErrFull)
			wantNotFound(t, "no room", c, to, now)
		}
		wantWait(t, "a second for one that is there", c, ip(3), packet(99), now, false, api.OK)
		wantLearn(t, "two", c, ip(3), mac(3), now, packets(3, 99), api.OK)
	}
	c := allAsked(t, 10)
	wantWait(t, "no room", c, 5, packet(99), 10, false, api.ErrFull)
	wantAllAsked(t, "nothing is changed", c)
}

// A packet that was handed in may be written over, and is not by the cache.
func TestWaitKeepsAPacketOfItsOwn(t *testing.T) {
	c := New()
	b := packet(1)
	wantWait(t, "the first", c, ip(1), b, 0, true, api.OK)
	clear(b)
	copy(b, packet(2))
	wantWait(t, "the second", c, ip(1), b, 0, false, api.OK)
	clear(b)
	large := append(packet(3), 0xEE, 0xEE, 0xEE, 0xEE)
	wantWait(t, "the beginning of more", c, ip(1), large[:4], 0, false, api.OK)
	copy(large, packet(4))
	wantWait(t, "the same array", c, ip(1), large[:4], 0, false, api.OK)
	told, _ := c.Learn(ip(1), mac(1), 0)
	if !samePackets(told, packets(1, 2, 3, 4)) {
		t.Fatalf("got %X", told)
	}
	for _, p := range told {
		clear(append(p, 0)[:4])
		clear(p)
	}
	if !samePackets([][]byte{large}, [][]byte{append(packet(4), 0xEE, 0xEE, 0xEE, 0xEE)}) {
		t.Fatalf("what was handed in was written over: %X", large)
	}
}

func TestWaitThatIsRefusedLeavesThePacket(t *testing.T) {
	c := allAsked(t, 0)
	for n := range 3 {
		wantWait(t, "one of four", c, ip(0), packet(n), 0, false, api.OK)
	}
	wantLearn(t, "known", c, ip(1), mac(1), 0, packets(1), api.OK)
	b := packet(9)
	wantWait(t, "the 5th", c, ip(0), b, 0, false, api.ErrFull)
	wantWait(t, "known", c, ip(1), b, 0, false, api.ErrState)
	if !samePackets([][]byte{b}, packets(9)) {
		t.Fatalf("got %X", b)
	}
	wantLearn(t, "those that wait", c, ip(0), mac(0), 0, packets(0, 0, 1, 2), api.OK)
}
