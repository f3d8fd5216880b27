package cache

import (
	"math"
	"slices"
	"testing"

	"underpass/api"
)

// rising puts addresses in order.
func rising(l ...api.IP) []api.IP {
	slices.Sort(l)
	return l
}

func TestTickOfKnownOnesAtEachAge(t *testing.T) {
	for _, x := range ages {
		c := New()
		wantLearn(t, x.name, c, ip(1), mac(1), x.at, nil, api.OK)
		wantTick(t, x.name, c, x.now, 0)
		if x.old {
			wantLen(t, x.name, c, 0)
			wantNotFound(t, x.name+": it went", c, ip(1), x.at)
		} else {
			wantLen(t, x.name, c, 1)
			wantFound(t, x.name+": it is there", c, ip(1), x.at, mac(1))
			wantFound(t, x.name+": it is there", c, ip(1), x.now, mac(1))
		}
	}
}

// A Tick makes what is known no younger.
func TestTickLeavesTheTimeOfKnownOnes(t *testing.T) {
	c := learned(t, 10)
	for now := uint64(0); now < 10+Life; now++ {
		wantTick(t, "known", c, now, 0)
	}
	wantFound(t, "Life-1", c, ip(0), 10+Life-1, mac(0))
	wantNotFound(t, "Life", c, ip(0), 10+Life)
	wantTick(t, "Life", c, 10+Life, 0)
	wantLen(t, "Life", c, 0)
}

func TestTickOfAskedOnesAtEachAge(t *testing.T) {
	for _, x := range []struct {
		name    string
		at, now uint64
		due     bool
	}{
		{"at once", 100, 100, false},
		{"Again-1", 100, 100 + Again - 1, false},
		{"Again", 100, 100 + Again, true},
		{"Again+1", 100, 100 + Again + 1, true},
		{"Life", 100, 100 + Life, true},
		{"far later", 100, math.MaxUint64, true},
		{"one ahead of its time", 100, 99, false},
		{"Again ahead of its time", 100, 100 - Again, false},
		{"far ahead of its time", math.MaxUint64, 0, false},
		{"of the first time, Again-1", 0, Again - 1, false},
		{"of the first time, Again", 0, Again, true},
		{"near the last time, Again-1", math.MaxUint64 - Again + 1, math.MaxUint64, false},
		{"near the last time, Again", math.MaxUint64 - Again, math.MaxUint64, true},
	} {
		c := New()
		wantWait(t, x.name, c, ip(1), packet(1), x.at, true, api.OK)
		if x.due {
			wantTick(t, x.name, c, x.now, 0, ip(1))
			wantTick(t, x.name+", and at once again", c, x.now, 0)
		} else {
			wantTick(t, x.name, c, x.now, 0)
		}
		wantLen(t, x.name, c, 1)
		wantLearn(t, x.name, c, ip(1), mac(1), x.now, packets(1), api.OK)
	}
}

// It is asked for by Wait, and by two Ticks; by the one behind these it goes.
func TestTickBehindTheThirdAsking(t *testing.T) {
	for waiting := 1; waiting <= 4; waiting++ {
		c := New()
		for n := range waiting {
			wantWait(t, "it waits", c, ip(1), packet(n), 10, n == 0, api.OK)
		}
		wantTick(t, "too early", c, 10+Again-1, 0)
		wantTick(t, "the second asking", c, 10+Again, 0, ip(1))
		wantTick(t, "too early", c, 10+2*Again-1, 0)
		wantTick(t, "the third asking", c, 10+2*Again, 0, ip(1))
		wantTick(t, "too early", c, 10+3*Again-1, 0)
		wantLen(t, "too early", c, 1)
		wantTick(t, "it goes", c, 10+3*Again, waiting)
		wantLen(t, "it went", c, 0)
		wantTick(t, "it is not asked for", c, 10+4*Again, 0)
		wantLearn(t, "nothing waits", c, ip(1), mac(1), 50, nil, api.OK)
	}
}

// Each asking has its time, from which the next one is counted.
func TestTickCountsFromTheLastAsking(t *testing.T) {
	c := New()
	wantWait(t, "the first asking", c, ip(1), packet(1), 10, true, api.OK)
	wantTick(t, "the second asking, late", c, 15, 0, ip(1))
	wantTick(t, "too early", c, 15+Again-1, 0)
	wantTick(t, "a now ahead of it", c, 10, 0)
	wantTick(t, "the third asking", c, 15+Again, 0, ip(1))
	wantTick(t, "too early", c, 15+2*Again-1, 0)
	wantTick(t, "it goes", c, 15+2*Again, 1)
	wantLen(t, "it went", c, 0)
}

// A packet that waits asks for nothing: neither the time of the last asking nor
// how often that was is another one.
func TestWaitLeavesTheTimeOfTheLastAsking(t *testing.T) {
	c := New()
	wantWait(t, "the first asking", c, ip(1), packet(1), 10, true, api.OK)
	wantWait(t, "a second packet", c, ip(1), packet(2), 10+Again-1, false, api.OK)
	wantTick(t, "the second asking", c, 10+Again, 0, ip(1))
	wantWait(t, "a third packet", c, ip(1), packet(3), 10+2*Again-1, false, api.OK)
	wantTick(t, "the third asking", c, 10+2*Again, 0, ip(1))
	wantWait(t, "a fourth packet", c, ip(1), packet(4), 10+3*Again-1, false, api.OK)
	wantWait(t, "a fifth packet", c, ip(1), packet(5), 10+3*Again-1, false, api.ErrFull)
	wantTick(t, "all four go", c, 10+3*Again, 4)
	wantLen(t, "all four went", c, 0)
}

// One that went by a Tick is asked for as if it had never been there.
func TestWaitBehindOneThatWent(t *testing.T) {
	c := New()
	for round := range 3 {
		now := uint64(100 * round)
		wantWait(t, "the first asking", c, ip(1), packet(1), now, true, api.OK)
		wantTick(t, "the second asking", c, now+Again, 0, ip(1))
		wantTick(t, "the third asking", c, now+2*Again, 0, ip(1))
		wantTick(t, "it goes", c, now+3*Again, 1)
	}
	wantWait(t, "once more", c, ip(1), packet(7), 400, true, api.OK)
	wantLearn(t, "once more", c, ip(1), mac(1), 400, packets(7), api.OK)
}

// One that was known and is too old is asked for three times as well.
func TestTickOfOneThatWasKnown(t *testing.T) {
	c := learned(t, 0)
	wantWait(t, "too old", c, ip(0), packet(1), Life, true, api.OK)
	wantTick(t, "it is asked for, and not too old", c, Life+Again-1, 0)
	wantTick(t, "the second asking", c, Life+Again, 0, ip(0))
	wantTick(t, "the third asking", c, Life+2*Again, 0, ip(0))
	wantTick(t, "it goes", c, Life+3*Again, 1)
	wantLen(t, "it went", c, 0)
}

func TestTickTellsAddressesRising(t *testing.T) {
	all := []api.IP{0, 1, 2, 0x0A000001, 0x7FFFFFFF, 0x80000000, 0x80000001, 0xC0A80001, 0xFFFFFFFE, 0xFFFFFFFF, 3}
	n := len(all) // a prime, so that each step comes by all of them
	want := rising(slices.Clone(all)...)
	for step := 1; step < n; step++ {
		c := New()
		for i := range n {
			wantWait(t, "one of several", c, all[i*step%n], packet(i), 0, true, api.OK)
		}
		wantTick(t, "none yet", c, Again-1, 0)
		wantTick(t, "the second asking", c, Again, 0, want...)
		wantTick(t, "the third asking", c, 2*Again, 0, want...)
		wantTick(t, "all go", c, 3*Again, n)
		wantLen(t, "all went", c, 0)
	}
}

// Of several each is looked at by itself: known ones, and those that were asked
// for at other times, and with other numbers of packets.
func TestTickOfSeveral(t *testing.T) {
	c := New()
	low, high, early, late := api.IP(7), api.IP(0x80000007), api.IP(0x40000000), api.IP(0xFFFFFFFF)
	wantLearn(t, "known", c, 5, mac(5), 0, nil, api.OK)
	wantLearn(t, "known later", c, 6, mac(6), 4, nil, api.OK)
	wantWait(t, "early", c, early, packet(1), 0, true, api.OK)
	wantWait(t, "early", c, early, packet(2), 0, false, api.OK)
	wantWait(t, "high", c, high, packet(3), 2, true, api.OK)
	wantTick(t, "early alone", c, Again, 0, early)
	wantWait(t, "low", c, low, packet(4), 2, true, api.OK)
	wantWait(t, "low", c, low, packet(5), 2, false, api.OK)
	wantWait(t, "low", c, low, packet(6), 2, false, api.OK)
	wantTick(t, "all", c, 2+Again, 0, low, early, high)
	wantWait(t, "late", c, late, packet(7), 5, true, api.OK)
	wantTick(t, "early goes, low and high are asked for", c, 4+Again, 2, low, high)
	wantTick(t, "late alone", c, 5+Again, 0, late)
	wantLen(t, "late alone", c, 5)
	wantTick(t, "low and high go", c, 6+Again, 4)
	wantTick(t, "late alone", c, 7+Again, 0, late)
	wantLen(t, "late alone", c, 3)
	wantTick(t, "late goes, and one that is too old", c, Life, 1)
	wantLen(t, "one that is known", c, 1)
	wantFound(t, "one that is known", c, 6, Life, mac(6))
}

func TestTickMakesRoom(t *testing.T) {
	c := allAsked(t, 0)
	wantWait(t, "no room", c, ip(99), packet(99), 0, false, api.ErrFull)
	var all []api.IP
	for n := range 32 {
		all = append(all, ip(n))
	}
	wantTick(t, "the second asking", c, Again, 0, rising(all...)...)
	wantTick(t, "the third asking", c, 2*Again, 0, all...)
	wantWait(t, "no room still", c, ip(99), packet(99), 2*Again, false, api.ErrFull)
	wantTick(t, "all go", c, 3*Again, 32)
	wantWait(t, "room", c, ip(99), packet(99), 3*Again, true, api.OK)
	wantLen(t, "room", c, 1)
}

func TestWhatTickToldIsTheCallers(t *testing.T) {
	c := New()
	for n := range 5 {
		wantWait(t, "one of five", c, api.IP(n), packet(n), 0, true, api.OK)
	}
	told, _ := c.Tick(Again)
	clear(told)
	clear(append(told, 9, 9, 9)[:1])
	wantTick(t, "the third asking", c, 2*Again, 0, 0, 1, 2, 3, 4)
	for n := range 5 {
		wantLearn(t, "all wait", c, api.IP(n), mac(n), 2*Again, packets(n), api.OK)
	}
}
