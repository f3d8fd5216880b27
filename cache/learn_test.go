package cache

import (
	"math"
	"testing"

	"underpass/api"
)

func TestLearnOfANewAddress(t *testing.T) {
	c := New()
	wantLearn(t, "new", c, ip(1), mac(1), 7, nil, api.OK)
	wantLen(t, "new", c, 1)
	wantFound(t, "new", c, ip(1), 7, mac(1))
	wantLearn(t, "a second", c, ip(2), mac(2), 8, nil, api.OK)
	wantLen(t, "a second", c, 2)
	wantFound(t, "the first still", c, ip(1), 8, mac(1))
	wantFound(t, "a second", c, ip(2), 8, mac(2))
	wantLearn(t, "a third, of the same MAC", c, ip(3), mac(2), 9, nil, api.OK)
	wantFound(t, "a third, of the same MAC", c, ip(3), 9, mac(2))
	wantFound(t, "the second still", c, ip(2), 9, mac(2))
}

func TestLearnOfOneThatIsKnown(t *testing.T) {
	c := learned(t, 0)
	wantLearn(t, "another MAC", c, ip(0), mac(9), Life-1, nil, api.OK)
	wantLen(t, "another MAC", c, 1)
	wantFound(t, "another MAC, since then", c, ip(0), 2*Life-2, mac(9))
	wantNotFound(t, "another MAC, too old", c, ip(0), 2*Life-1)
	wantLearn(t, "the same MAC, at a later time", c, ip(0), mac(9), 2*Life-2, nil, api.OK)
	wantFound(t, "the same MAC, since then", c, ip(0), 3*Life-3, mac(9))
	wantLearn(t, "at a time that is less", c, ip(0), mac(9), 5, nil, api.OK)
	wantNotFound(t, "since the time that is less", c, ip(0), 5+Life)
	wantLen(t, "at a time that is less", c, 1)
}

func TestLearnOfOneThatWasAskedFor(t *testing.T) {
	for waiting := 1; waiting <= 4; waiting++ {
		c := New()
		var numbers []int
		for n := range waiting {
			numbers = append(numbers, 10-n)
			wantWait(t, "it waits", c, ip(1), packet(10-n), uint64(n), n == 0, api.OK)
		}
		wantLearn(t, "asked for", c, ip(1), mac(1), 20, packets(numbers...), api.OK)
		wantLen(t, "asked for", c, 1)
		wantFound(t, "asked for", c, ip(1), 20+Life-1, mac(1))
		wantNotFound(t, "asked for, too old", c, ip(1), 20+Life)
		wantLearn(t, "only once", c, ip(1), mac(1), 20, nil, api.OK)
		wantTick(t, "nothing waits any more", c, math.MaxUint64, 0)
		wantLen(t, "nothing waits any more", c, 0)
	}
}

// The packets of one address alone are told.
func TestLearnTellsNoPacketsOfOthers(t *testing.T) {
	c := New()
	for n := range 8 {
		wantWait(t, "one of two", c, ip(n%2), packet(n), 0, n < 2, api.OK)
	}
	wantLearn(t, "a third", c, ip(2), mac(2), 0, nil, api.OK)
	wantLearn(t, "the first", c, ip(0), mac(0), 0, packets(0, 2, 4, 6), api.OK)
	wantLearn(t, "the second", c, ip(1), mac(1), 0, packets(1, 3, 5, 7), api.OK)
}

// The same bytes wait as often as they were handed in, and those of no bytes
// too.
func TestLearnTellsPacketsThatAreTheSame(t *testing.T) {
	c := New()
	wantWait(t, "nil", c, ip(1), nil, 0, true, api.OK)
	wantWait(t, "bytes", c, ip(1), packet(1), 0, false, api.OK)
	wantWait(t, "no bytes", c, ip(1), []byte{}, 0, false, api.OK)
	wantWait(t, "the same bytes", c, ip(1), packet(1), 0, false, api.OK)
	wantLearn(t, "all four", c, ip(1), mac(1), 0, [][]byte{nil, packet(1), nil, packet(1)}, api.OK)
}

func TestLearnBehindASecondAsking(t *testing.T) {
	c := New()
	wantWait(t, "the first", c, ip(1), packet(1), 0, true, api.OK)
	wantTick(t, "asked for again", c, Again, 0, ip(1))
	wantWait(t, "the second", c, ip(1), packet(2), Again, false, api.OK)
	wantLearn(t, "both", c, ip(1), mac(1), Again+1, packets(1, 2), api.OK)
	wantFound(t, "since then", c, ip(1), Again+Life, mac(1))
}

func TestLearnOfOneThatIsTooOld(t *testing.T) {
	c := learned(t, 0, 50)
	wantLearn(t, "too old", c, ip(0), mac(9), Life, nil, api.OK)
	wantLen(t, "too old", c, 2)
	wantFound(t, "known again", c, ip(0), 2*Life-1, mac(9))
	wantNotFound(t, "too old again", c, ip(0), 2*Life)
}

// Whatever is there is learned in its place also of a full cache, so that none
// goes.
func TestLearnInAPlaceOfAFullCache(t *testing.T) {
	since := make([]uint64, 32)
	for n := range since {
		since[n] = uint64(n)
	}
	c := learned(t, since...)
	for n := range 32 {
		wantLearn(t, "known, or too old", c, ip(n), mac(100+n), 80, nil, api.OK)
		wantLen(t, "known, or too old", c, 32)
	}
	for n := range 32 {
		wantFound(t, "all are there", c, ip(n), 80, mac(100+n))
	}
	wantAllAsked(t, "all were asked for", allAsked(t, 0))
}

func TestLearnOfThe32ndAndOfThe33rd(t *testing.T) {
	c := learned(t, make([]uint64, 31)...)
	wantLearn(t, "the 32nd", c, ip(31), mac(31), 5, nil, api.OK)
	wantLen(t, "the 32nd", c, 32)
	for n := range 32 {
		wantFound(t, "all are there", c, ip(n), 5, mac(n))
	}
	wantLearn(t, "the 33rd", c, ip(32), mac(32), 6, nil, api.OK)
	wantLen(t, "the 33rd", c, 32)
	wantFound(t, "the 33rd", c, ip(32), 6, mac(32))
}

// rooms are caches of 32, of which one is to go: its address, and the time since
// when it is known; what the others are; and the time of the one that comes.
var rooms = []struct {
	name  string
	least api.IP
	at    uint64
	fill  func(n int) (api.IP, uint64)
	now   uint64
}{
	{"the least time, of the least address", 0, 3, func(n int) (api.IP, uint64) { return api.IP(n), uint64(3 + n) }, 40},
	{"the least time, of the greatest address", 0xFFFFFFFF, 3, func(n int) (api.IP, uint64) { return api.IP(n), uint64(3 + n) }, 40},
	{"the least time, in the middle", 16, 3, func(n int) (api.IP, uint64) { return api.IP(n + n/16), uint64(36 - n) }, 40},
	{"one time, the least address", 0, 7, func(n int) (api.IP, uint64) { return api.IP(n), 7 }, 40},
	{"one time, the least address has no highest bit", 0x7FFFFFFF, 7, func(n int) (api.IP, uint64) { return 0x80000000 + api.IP(n), 7 }, 40},
	{"of two of the least time the least address", 0x80000001, 7, func(n int) (api.IP, uint64) {
		if n == 31 {
			return 0x80000002, 7
		}
		return api.IP(n), 8
	}, 40},
	{"the least time, which is too old", 9, 3, func(n int) (api.IP, uint64) { return api.IP(100 + n), uint64(40 + n) }, 3 + Life},
	{"the least time, with others that are too old", 99, 3, func(n int) (api.IP, uint64) { return api.IP(n), uint64(3 + n) }, 20 + Life},
	{"all are too old", 99, 3, func(n int) (api.IP, uint64) { return api.IP(n), uint64(3 + n) }, 1000},
	{"a now ahead of all times", 99, 500, func(n int) (api.IP, uint64) { return api.IP(n), uint64(500 + n) }, 0},
	{"times that are far from each other", 99, 0, func(n int) (api.IP, uint64) { return api.IP(n), 1<<63 + uint64(n) }, 40},
	{"the last time of all", 99, math.MaxUint64 - 1, func(n int) (api.IP, uint64) { return api.IP(n), math.MaxUint64 }, 40},
}

// fillRoom learns them in one order, or in the other one; the one that is to go
// is the first, or the last.
func fillRoom(t *testing.T, x int, backward bool) *Cache {
	t.Helper()
	r, c := rooms[x], New()
	for n := range 32 {
		if backward {
			n = 31 - n
		}
		to, at := r.least, r.at
		if n > 0 {
			to, at = r.fill(n)
		}
		wantLearn(t, r.name, c, to, mac(n), at, nil, api.OK)
	}
	wantLen(t, r.name, c, 32)
	return c
}

// wantLeastGone looks at each at its own time, at which none is too old.
func wantLeastGone(t *testing.T, x int, c *Cache) {
	t.Helper()
	r := rooms[x]
	wantLen(t, r.name, c, 32)
	wantNotFound(t, r.name, c, r.least, r.at)
	for n := 1; n < 32; n++ {
		to, at := r.fill(n)
		wantFound(t, r.name, c, to, at, mac(n))
	}
}

func TestLearnInAFullCacheWithKnownOnes(t *testing.T) {
	for x, r := range rooms {
		for _, backward := range []bool{false, true} {
			c := fillRoom(t, x, backward)
			wantLearn(t, r.name, c, 0x50000000, mac(77), r.now, nil, api.OK)
			wantLeastGone(t, x, c)
			wantFound(t, r.name, c, 0x50000000, r.now, mac(77))
		}
	}
}

// Since a now may be behind what was learned last, the new one may be the next
// that goes.
func TestLearnInAFullCacheAtATimeThatIsLess(t *testing.T) {
	since := make([]uint64, 32)
	for n := range since {
		since[n] = uint64(100 + n)
	}
	c := learned(t, since...)
	wantLearn(t, "the 33rd", c, ip(32), mac(32), 5, nil, api.OK)
	wantNotFound(t, "the least went", c, ip(0), 100)
	wantLearn(t, "the 34th", c, ip(33), mac(33), 6, nil, api.OK)
	wantNotFound(t, "the 33rd went", c, ip(32), 5)
	wantFound(t, "the second is there", c, ip(1), 101, mac(1))
	wantLen(t, "the 34th", c, 32)
}

func TestLearnAgainMovesTheTime(t *testing.T) {
	since := make([]uint64, 32)
	for n := range since {
		since[n] = uint64(10 + n)
	}
	c := learned(t, since...)
	wantLearn(t, "the first again", c, ip(0), mac(0), 50, nil, api.OK)
	wantLearn(t, "the 33rd", c, ip(32), mac(32), 50, nil, api.OK)
	wantFound(t, "the first is there", c, ip(0), 50, mac(0))
	wantNotFound(t, "the second went", c, ip(1), 50)
}

// One that is asked for does not go, though its time is less than that of the
// known one, and its address as well.
func TestLearnInAFullCacheWithOneKnown(t *testing.T) {
	for known := range 32 {
		c := New()
		for n := range 32 {
			if n == known {
				wantLearn(t, "the known one", c, api.IP(n), mac(n), 90, nil, api.OK)
			} else {
				wantWait(t, "asked for", c, api.IP(n), packet(n), 10, true, api.OK)
			}
		}
		wantLearn(t, "the 33rd", c, ip(99), mac(99), 91, nil, api.OK)
		wantNotFound(t, "the known one went", c, api.IP(known), 90)
		wantFound(t, "the 33rd", c, ip(99), 91, mac(99))
		wantLen(t, "the 33rd", c, 32)
		for n := range 32 {
			if n != known {
				wantLearn(t, "asked for", c, api.IP(n), mac(n), 91, packets(n), api.OK)
			}
		}
	}
}

func TestLearnInAFullCacheWhereAllAreAskedFor(t *testing.T) {
	for _, to := range []api.IP{5, 0x80000005, 0xFFFFFFFF} {
		for _, now := range []uint64{0, 10, 10 + Again, 10 + Life, math.MaxUint64} {
			c := allAsked(t, 10)
			wantLearn(t, "no room", c, to, mac(99), now, nil, api.ErrFull)
			wantNotFound(t, "no room", c, to, now)
			wantAllAsked(t, "no room", c)
		}
	}
}

// The address of noughts is as any other one: it does not go where there is no
// known one.
func TestLearnInAFullCacheKeepsTheAddressOfNoughts(t *testing.T) {
	c := New()
	for n := range 32 {
		wantWait(t, "asked for", c, api.IP(n), packet(n), 0, true, api.OK)
	}
	wantLearn(t, "no room", c, 99, mac(99), 0, nil, api.ErrFull)
	wantLen(t, "no room", c, 32)
	wantLearn(t, "noughts", c, 0, mac(0), 0, packets(0), api.OK)
	wantLearn(t, "room", c, 99, mac(99), 1, nil, api.OK)
	wantNotFound(t, "noughts, known, went", c, 0, 0)
	wantLen(t, "room", c, 32)
}

func TestLearnAsksForAnAddressNoMore(t *testing.T) {
	c := New()
	wantWait(t, "asked for", c, ip(1), packet(1), 0, true, api.OK)
	wantLearn(t, "known", c, ip(1), mac(1), 1, packets(1), api.OK)
	for now := range uint64(Life) {
		wantTick(t, "known", c, now, 0)
	}
	wantLen(t, "known", c, 1)
}

func TestWhatLearnToldIsTheCallers(t *testing.T) {
	c := New()
	for n := range 4 {
		wantWait(t, "the first", c, ip(1), packet(n), 0, n == 0, api.OK)
		wantWait(t, "the second", c, ip(2), packet(10+n), 0, n == 0, api.OK)
	}
	told, _ := c.Learn(ip(1), mac(1), 0)
	for n := range told {
		told[n] = append(told[n][:0], 0xAA, 0xAA, 0xAA, 0xAA, 0xAA)
		clear(told[n][:cap(told[n])])
		for other := n + 1; other < len(told); other++ {
			if !samePackets(told[other:other+1], packets(other)) {
				t.Fatalf("packets %d and %d share: %X", n, other, told[other])
			}
		}
	}
	_ = append(told[:0], nil, nil, nil, nil, nil)
	wantLearn(t, "the first again", c, ip(1), mac(1), 0, nil, api.OK)
	wantLearn(t, "the second", c, ip(2), mac(2), 0, packets(10, 11, 12, 13), api.OK)
	wantFound(t, "the first", c, ip(1), 0, mac(1))
}
