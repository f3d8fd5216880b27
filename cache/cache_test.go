package cache

import (
	"bytes"
	"math"
	"slices"
	"testing"

	"underpass/api"
)

// ip is one of many addresses; some have their highest bit set.
func ip(n int) api.IP { return api.IP(n) * 0x9E3779B1 }

// mac is one of many, and never that of noughts alone.
func mac(n int) api.MAC { return api.MAC{2, 0, 0, 0, byte(n >> 8), byte(n)} }

// packet is one of many.
func packet(n int) []byte { return []byte{byte(n >> 8), byte(n), 0x45, 0x00} }

func packets(numbers ...int) [][]byte {
	var l [][]byte
	for _, n := range numbers {
		l = append(l, packet(n))
	}
	return l
}

func wantFound(t *testing.T, what string, c *Cache, ip api.IP, now uint64, mac api.MAC) {
	t.Helper()
	if got, ok := c.Find(ip, now); got != mac || !ok {
		t.Fatalf("%s: Find(%08X, %d): got %X, %v, want %X", what, ip, now, got, ok, mac)
	}
}

func wantNotFound(t *testing.T, what string, c *Cache, ip api.IP, now uint64) {
	t.Helper()
	if got, ok := c.Find(ip, now); got != (api.MAC{}) || ok {
		t.Fatalf("%s: Find(%08X, %d): got %X, %v, want nothing", what, ip, now, got, ok)
	}
}

func samePackets(a, b [][]byte) bool { return slices.EqualFunc(a, b, bytes.Equal) }

func wantLearn(t *testing.T, what string, c *Cache, ip api.IP, mac api.MAC, now uint64, waited [][]byte, code api.Errno) {
	t.Helper()
	if got, e := c.Learn(ip, mac, now); !samePackets(got, waited) || e != code {
		t.Fatalf("%s: Learn(%08X, %X, %d): got %X, %d, want %X, %d", what, ip, mac, now, got, e, waited, code)
	}
}

func wantWait(t *testing.T, what string, c *Cache, ip api.IP, packet []byte, now uint64, ask bool, code api.Errno) {
	t.Helper()
	if got, e := c.Wait(ip, packet, now); got != ask || e != code {
		t.Fatalf("%s: Wait(%08X, %X, %d): got %v, %d, want %v, %d", what, ip, packet, now, got, e, ask, code)
	}
}

func wantTick(t *testing.T, what string, c *Cache, now uint64, gone int, due ...api.IP) {
	t.Helper()
	if got, n := c.Tick(now); !slices.Equal(got, due) || n != gone {
		t.Fatalf("%s: Tick(%d): got %08X, %d, want %08X, %d", what, now, got, n, due, gone)
	}
}

func wantLen(t *testing.T, what string, c *Cache, n int) {
	t.Helper()
	if got := c.Len(); got != n {
		t.Fatalf("%s: Len: got %d, want %d", what, got, n)
	}
}

// learned is a cache that knows these, each since its own time.
func learned(t *testing.T, since ...uint64) *Cache {
	t.Helper()
	c := New()
	for n, at := range since {
		wantLearn(t, "one of the first", c, ip(n), mac(n), at, nil, api.OK)
	}
	return c
}

// allAsked is a full cache, where all are asked for, each with its own packet.
func allAsked(t *testing.T, now uint64) *Cache {
	t.Helper()
	c := New()
	for n := range 32 {
		wantWait(t, "one of the first", c, ip(n), packet(n), now, true, api.OK)
	}
	return c
}

// wantAllAsked looks at what allAsked made, which is written over by it.
func wantAllAsked(t *testing.T, what string, c *Cache) {
	t.Helper()
	wantLen(t, what, c, 32)
	for n := range 32 {
		wantLearn(t, what, c, ip(n), mac(n), 0, packets(n), api.OK)
	}
	wantLen(t, what, c, 32)
}

func TestConstants(t *testing.T) {
	if Life != 60 || Again != 2 || Tries != 3 || api.MaxCache != 32 || api.MaxPending != 4 {
		t.Fatal(Life, Again, Tries, api.MaxCache, api.MaxPending)
	}
}

func TestAnEmptyCache(t *testing.T) {
	c := New()
	wantLen(t, "empty", c, 0)
	for _, now := range []uint64{0, 1, Again, Life, math.MaxUint64} {
		for _, to := range []api.IP{0, 1, 0x80000000, 0xFFFFFFFF} {
			wantNotFound(t, "empty", c, to, now)
		}
		wantTick(t, "empty", c, now, 0)
	}
	wantLen(t, "empty", c, 0)
}

// The ages of an entry that is known, one by one.
var ages = []struct {
	name    string
	at, now uint64
	old     bool
}{
	{"at once", 100, 100, false},
	{"one later", 100, 101, false},
	{"Life-1", 100, 100 + Life - 1, false},
	{"Life", 100, 100 + Life, true},
	{"Life+1", 100, 100 + Life + 1, true},
	{"far later", 100, math.MaxUint64, true},
	{"one ahead of its time", 100, 99, false},
	{"Life-1 ahead of its time", 100, 100 - Life + 1, false},
	{"Life ahead of its time", 100, 100 - Life, false},
	{"more than Life ahead of its time", 100, 0, false},
	{"far ahead of its time", math.MaxUint64, 0, false},
	{"of the first time, Life-1", 0, Life - 1, false},
	{"of the first time, Life", 0, Life, true},
	{"of the first time, far later", 0, math.MaxUint64, true},
	{"of the last time", math.MaxUint64, math.MaxUint64, false},
	{"near the last time, Life-1", math.MaxUint64 - Life + 1, math.MaxUint64, false},
	{"near the last time, Life", math.MaxUint64 - Life, math.MaxUint64, true},
	{"of half of all times", 1 << 63, 1<<63 - 1, false},
	{"half of all times later", 0, 1 << 63, true},
}

func TestFindAtEachAge(t *testing.T) {
	for _, x := range ages {
		c := New()
		wantLearn(t, x.name, c, ip(1), mac(1), x.at, nil, api.OK)
		if x.old {
			wantNotFound(t, x.name, c, ip(1), x.now)
		} else {
			wantFound(t, x.name, c, ip(1), x.now, mac(1))
		}
		wantLen(t, x.name, c, 1)
		wantFound(t, x.name+", at its time again", c, ip(1), x.at, mac(1))
	}
}

func TestFindOfOneThatIsAskedFor(t *testing.T) {
	c := New()
	wantWait(t, "the first", c, ip(1), packet(1), 10, true, api.OK)
	for _, now := range []uint64{0, 10, 10 + Again, 10 + Life, math.MaxUint64} {
		wantNotFound(t, "asked for", c, ip(1), now)
	}
	wantLen(t, "asked for", c, 1)
	wantLearn(t, "asked for", c, ip(1), mac(1), 10, packets(1), api.OK)
}

func TestFindOfOneThatIsNotThere(t *testing.T) {
	c := New()
	wantLearn(t, "another", c, 5, mac(5), 10, nil, api.OK)
	for _, to := range []api.IP{0, 4, 6, 0x80000005, 0xFFFFFFFF} {
		wantNotFound(t, "beside another", c, to, 10)
	}
	wantFound(t, "the other", c, 5, 10, mac(5))
}

// Any address and any MAC will do, those of noughts too.
func TestAnyAddressAndAnyMAC(t *testing.T) {
	for _, to := range []api.IP{0, 1, 0x7FFFFFFF, 0x80000000, 0xFFFFFFFF} {
		for _, m := range []api.MAC{{}, {1}, api.All, {1, 2, 3, 4, 5, 6}} {
			c := New()
			wantWait(t, "any", c, to, packet(1), 3, true, api.OK)
			wantLearn(t, "any", c, to, m, 3, packets(1), api.OK)
			wantFound(t, "any", c, to, 3, m)
		}
	}
}

func TestFindChangesNothing(t *testing.T) {
	c := learned(t, 0, 0)
	wantWait(t, "asked for", c, ip(2), packet(2), 0, true, api.OK)
	for n := range 4 {
		for now := range uint64(2 * Life) {
			c.Find(ip(n), now)
		}
	}
	wantLen(t, "behind Find", c, 3)
	wantFound(t, "behind Find", c, ip(0), 0, mac(0))
	wantTick(t, "behind Find", c, Again, 0, ip(2))
	wantLearn(t, "behind Find", c, ip(2), mac(2), 0, packets(2), api.OK)
}

func TestLenCountsTheOldOnes(t *testing.T) {
	c := learned(t, 0, 1, 2)
	wantWait(t, "asked for", c, ip(3), packet(3), 100, true, api.OK)
	wantNotFound(t, "too old", c, ip(0), 100)
	wantNotFound(t, "too old", c, ip(1), 100)
	wantLen(t, "with those that are too old", c, 4)
	wantTick(t, "they go", c, Life+1, 0)
	wantLen(t, "without two of them", c, 2)
	wantTick(t, "the last goes", c, Life+2, 0)
	wantLen(t, "one that is asked for", c, 1)
}

func TestCachesHaveNothingToDoWithEachOther(t *testing.T) {
	one, two := New(), New()
	wantWait(t, "the first cache", one, ip(1), packet(1), 0, true, api.OK)
	wantLen(t, "the second cache", two, 0)
	wantTick(t, "the second cache", two, Again, 0)
	wantLearn(t, "the second cache", two, ip(1), mac(2), 0, nil, api.OK)
	wantNotFound(t, "the first cache", one, ip(1), 0)
	wantWait(t, "the first cache", one, ip(1), packet(2), 0, false, api.OK)
	wantWait(t, "the second cache", two, ip(1), packet(3), 0, false, api.ErrState)
	wantLearn(t, "the first cache", one, ip(1), mac(1), 0, packets(1, 2), api.OK)
	wantFound(t, "the first cache", one, ip(1), 0, mac(1))
	wantFound(t, "the second cache", two, ip(1), 0, mac(2))
	wantTick(t, "the first cache", one, Life, 0)
	wantLen(t, "the first cache", one, 0)
	wantLen(t, "the second cache", two, 1)
	full := allAsked(t, 0)
	wantWait(t, "a full cache", full, ip(99), packet(99), 0, false, api.ErrFull)
	wantWait(t, "one that is not full", two, ip(99), packet(99), 0, true, api.OK)
}
