package route

import (
	"testing"

	"underpass/api"
)

func TestTheChaptersExample(t *testing.T) {
	one, two := mark(ip(10, 0, 0, 0), 8, 1), mark(ip(10, 1, 0, 0), 16, 2)
	for _, tb := range []*Table{tableOf(t, one, two), tableOf(t, two, one)} {
		wantFound(t, "10.1.2.3", tb, ip(10, 1, 2, 3), two)
		wantFound(t, "10.2.2.3", tb, ip(10, 2, 2, 3), one)
		wantFound(t, "10.0.255.255", tb, ip(10, 0, 255, 255), one)
		wantFound(t, "10.1.0.0", tb, ip(10, 1, 0, 0), two)
		wantFound(t, "10.1.255.255", tb, ip(10, 1, 255, 255), two)
		wantNotFound(t, "11.1.2.3", tb, ip(11, 1, 2, 3))
		wantNotFound(t, "9.255.255.255", tb, ip(9, 255, 255, 255))
	}
}

func TestFindOfNoRoute(t *testing.T) {
	for _, to := range []api.IP{0, 1, ip(10, 1, 2, 3), 0x7FFFFFFF, 0x80000000, 0xFFFFFFFF} {
		wantNotFound(t, "an empty table", New(), to)
		wantNotFound(t, "a table without the route", tableOf(t, mark(ip(192, 0, 2, 0), 24, 1), mark(ip(127, 0, 0, 0), 16, 2)), to)
	}
}

func TestFindOfOneThatCoversAllAddresses(t *testing.T) {
	all, some := mark(0, 0, 1), mark(0xC0000000, 2, 2)
	tb := tableOf(t, all)
	for bit := range 32 {
		wantFound(t, "all addresses", tb, 1<<bit, all)
		wantFound(t, "all addresses", tb, ^(1 << bit), all)
	}
	wantFound(t, "all addresses", tb, 0, all)
	wantFound(t, "all addresses", tb, 0xFFFFFFFF, all)
	wantAdd(t, "some", tb, some, api.OK)
	wantFound(t, "some", tb, 0xC0000000, some)
	wantFound(t, "some", tb, 0xFFFFFFFF, some)
	wantFound(t, "the others", tb, 0xBFFFFFFF, all)
	wantFound(t, "the others", tb, 0, all)
	wantDel(t, "all addresses", tb, 0, 0, api.OK)
	wantNotFound(t, "the others", tb, 0)
}

// A route that is nothing but noughts is found all the same, and with true.
func TestFindOfARouteOfNoughts(t *testing.T) {
	wantFound(t, "noughts", tableOf(t, Route{}), ip(10, 1, 2, 3), Route{})
}

// Of routes of each number of bits the longest one is found that is still
// there.
func TestFindOfSeveralThatCover(t *testing.T) {
	to := ip(170, 85, 204, 51)
	tb := New()
	var routes []Route
	for bits := range 33 {
		routes = append(routes, mark(cut(to, bits), bits, bits))
		wantAdd(t, "one more", tb, routes[bits], api.OK)
		wantFound(t, "one more", tb, to, routes[bits])
	}
	for bits := 1; bits <= 32; bits++ {
		wantFound(t, "the last of its bits turned", tb, to^0x80000000>>(bits-1), routes[bits-1])
	}
	for bits := 32; bits > 0; bits-- {
		wantDel(t, "one less", tb, routes[bits].Dst, bits, api.OK)
		wantFound(t, "one less", tb, to, routes[bits-1])
	}
	wantDel(t, "the last", tb, 0, 0, api.OK)
	wantNotFound(t, "none", tb, to)
}

// The first Bits bits are all looked at, and none behind them.
func TestFindOfEachBitTurned(t *testing.T) {
	for _, to := range []api.IP{0, ip(10, 1, 2, 3), 0x80000001, 0xFFFFFFFF} {
		for bits := range 33 {
			r := mark(cut(to, bits), bits, 5)
			tb := tableOf(t, r)
			wantFound(t, "the address", tb, to, r)
			for place := range 32 {
				other := to ^ 0x80000000>>place
				if place < bits {
					wantNotFound(t, "a bit of the first turned", tb, other)
				} else {
					wantFound(t, "a bit behind the first turned", tb, other, r)
				}
			}
		}
	}
}

func TestFindOf32Bits(t *testing.T) {
	one, all := mark(ip(10, 1, 2, 3), 32, 1), mark(ip(10, 1, 2, 2), 31, 2)
	tb := tableOf(t, one)
	wantFound(t, "the address", tb, ip(10, 1, 2, 3), one)
	wantNotFound(t, "the one below", tb, ip(10, 1, 2, 2))
	wantNotFound(t, "the one above", tb, ip(10, 1, 2, 4))
	wantAdd(t, "31 bits", tb, all, api.OK)
	wantFound(t, "the address", tb, ip(10, 1, 2, 3), one)
	wantFound(t, "the one below", tb, ip(10, 1, 2, 2), all)
	wantNotFound(t, "the one above", tb, ip(10, 1, 2, 4))
}

func TestFindChangesNothing(t *testing.T) {
	tb := tableOf(t, rising()...)
	for n := range 1000 {
		first, ok := tb.Find(api.IP(n) * 0x9E3779B1)
		again, still := tb.Find(api.IP(n) * 0x9E3779B1)
		if first != again || ok != still {
			t.Fatalf("got %+v, then %+v", first, again)
		}
	}
	wantList(t, "behind Find", tb, rising()...)
}

func TestWhatFindToldIsTheCallers(t *testing.T) {
	r := mark(ip(10, 0, 0, 0), 8, 1)
	tb := tableOf(t, r)
	got, _ := tb.Find(ip(10, 1, 2, 3))
	got.Dst, got.Bits, got.Via, got.Out = 1, 2, 3, 4
	wantFound(t, "behind one that was written over", tb, ip(10, 1, 2, 3), r)
	wantList(t, "behind one that was written over", tb, r)
}
