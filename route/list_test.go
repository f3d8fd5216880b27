package route

import (
	"slices"
	"testing"

	"underpass/api"
)

// rising are routes in the order in which List tells them: those of a Dst with
// its highest bit set are behind all others, and Bits count among those of one
// Dst alone.
func rising() []Route {
	return []Route{
		mark(0, 0, 9),
		mark(0, 1, 8),
		mark(0, 32, 7),
		mark(1, 32, 6),
		mark(ip(9, 255, 255, 255), 32, 5),
		mark(ip(10, 0, 0, 0), 8, 4),
		mark(ip(10, 0, 0, 0), 9, 3),
		mark(ip(10, 0, 0, 0), 16, 2),
		mark(ip(10, 0, 0, 0), 32, 1),
		mark(ip(10, 0, 1, 0), 24, 0),
		mark(ip(10, 1, 0, 0), 16, 1),
		mark(0x7FFFFFFF, 32, 2),
		mark(0x80000000, 1, 3),
		mark(0x80000000, 2, 4),
		mark(0x80000001, 32, 5),
		mark(0xC0000000, 2, 6),
		mark(0xFFFFFFFE, 31, 7),
		mark(0xFFFFFFFE, 32, 8),
		mark(0xFFFFFFFF, 32, 9),
	}
}

func TestListOfAnEmptyTable(t *testing.T) {
	tb := New()
	if got := tb.List(); len(got) != 0 {
		t.Fatalf("got %+v", got)
	}
	wantAdd(t, "a route", tb, mark(0, 0, 1), api.OK)
	wantDel(t, "the route", tb, 0, 0, api.OK)
	if got := tb.List(); len(got) != 0 {
		t.Fatalf("behind Del: got %+v", got)
	}
}

func TestListIsRisingWhateverTheOrderOfAdd(t *testing.T) {
	routes := rising()
	n := len(routes)
	backward := slices.Clone(routes)
	slices.Reverse(backward)
	wantList(t, "in their order", tableOf(t, routes...), routes...)
	wantList(t, "the other way round", tableOf(t, backward...), routes...)
	for step := 1; step < n; step++ { // n is a prime, so that each step comes by all of them
		for from := range n {
			var mixed []Route
			for i := range n {
				mixed = append(mixed, routes[(from+i*step)%n])
			}
			wantList(t, "mixed", tableOf(t, mixed...), routes...)
		}
	}
}

func TestListIsTheSameEachTime(t *testing.T) {
	tb := tableOf(t, rising()...)
	for range 200 {
		wantList(t, "again", tb, rising()...)
	}
}

func TestListOfEachNumberOfBitsOfOneDst(t *testing.T) {
	for _, dst := range []api.IP{0, 0x80000000} {
		var routes []Route
		for bits := range 33 {
			if dst == 0 || bits > 0 {
				routes = append(routes, mark(dst, bits, 100-bits))
			}
		}
		tb := New()
		for n := range routes {
			wantAdd(t, "all bits of one Dst", tb, routes[len(routes)-1-n], api.OK)
		}
		wantList(t, "all bits of one Dst", tb, routes...)
	}
}

func TestWhatListToldIsTheCallers(t *testing.T) {
	tb := tableOf(t, rising()...)
	one, two := tb.List(), tb.List()
	clear(one)
	clear(append(one[:3], Route{Dst: 5}))
	if !slices.Equal(two, rising()) {
		t.Fatalf("two lists share: %+v", two)
	}
	wantList(t, "behind lists that were written over", tb, rising()...)
	wantFound(t, "behind lists that were written over", tb, 1, mark(1, 32, 6))
	wantDel(t, "a route", tb, 1, 32, api.OK)
	wantAdd(t, "a route", tb, mark(0, 0, 77), api.OK)
	if !slices.Equal(two, rising()) {
		t.Fatalf("a list is another one once the table is: %+v", two)
	}
}
