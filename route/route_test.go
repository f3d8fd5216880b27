package route

import (
	"math"
	"slices"
	"strconv"
	"testing"

	"underpass/api"
)

// ip is the address of these four numbers.
func ip(a, b, c, d byte) api.IP {
	return api.IP(a)<<24 | api.IP(b)<<16 | api.IP(c)<<8 | api.IP(d)
}

// mark makes a route unlike any other one of the same addresses.
func mark(dst api.IP, bits, n int) Route {
	return Route{Dst: dst, Bits: bits, Via: ip(192, 168, 0, 0) + api.IP(n), Out: n}
}

// tableOf is a table to which these were added, in this order.
func tableOf(t *testing.T, routes ...Route) *Table {
	t.Helper()
	tb := New()
	for _, r := range routes {
		wantAdd(t, "one of the first routes", tb, r, api.OK)
	}
	return tb
}

// sixtyFour are as many as there is room for, in the order in which List tells
// them.
func sixtyFour() []Route {
	var routes []Route
	for n := range 64 {
		routes = append(routes, mark(ip(10, 0, byte(n), 0), 24, n))
	}
	return routes
}

func wantAdd(t *testing.T, what string, tb *Table, r Route, code api.Errno) {
	t.Helper()
	if got := tb.Add(r); got != code {
		t.Fatalf("%s: Add(%+v): got %d, want %d", what, r, got, code)
	}
}

func wantDel(t *testing.T, what string, tb *Table, dst api.IP, bits int, code api.Errno) {
	t.Helper()
	if got := tb.Del(dst, bits); got != code {
		t.Fatalf("%s: Del(%08X, %d): got %d, want %d", what, dst, bits, got, code)
	}
}

func wantList(t *testing.T, what string, tb *Table, routes ...Route) {
	t.Helper()
	if got := tb.List(); !slices.Equal(got, routes) {
		t.Fatalf("%s: List: got %+v, want %+v", what, got, routes)
	}
}

func wantFound(t *testing.T, what string, tb *Table, to api.IP, r Route) {
	t.Helper()
	if got, ok := tb.Find(to); got != r || !ok {
		t.Fatalf("%s: Find(%08X): got %+v, %v, want %+v", what, to, got, ok, r)
	}
}

func wantNotFound(t *testing.T, what string, tb *Table, to api.IP) {
	t.Helper()
	if got, ok := tb.Find(to); got != (Route{}) || ok {
		t.Fatalf("%s: Find(%08X): got %+v, %v, want nothing", what, to, got, ok)
	}
}

// candidates are routes, each with what Add tells of it where there is room.
var candidates = []struct {
	name string
	dst  api.IP
	bits int
	code api.Errno
}{
	{"the lowest Bits of all", 0, math.MinInt, api.ErrArg},
	{"Bits -32", 0, -32, api.ErrArg},
	{"Bits -1", 0, -1, api.ErrArg},
	{"Bits -1 of an address", 0x0A000000, -1, api.ErrArg},
	{"Bits 0", 0, 0, api.OK},
	{"Bits 0, the lowest bit set", 1, 0, api.ErrArg},
	{"Bits 0, the bit just behind set", 0x80000000, 0, api.ErrArg},
	{"Bits 0, all bits set", 0xFFFFFFFF, 0, api.ErrArg},
	{"Bits 1", 0, 1, api.OK},
	{"Bits 1, its bit set", 0x80000000, 1, api.OK},
	{"Bits 1, the bit just behind set", 0x40000000, 1, api.ErrArg},
	{"Bits 1, the bit just behind set as well", 0xC0000000, 1, api.ErrArg},
	{"Bits 1, the lowest bit set", 0x80000001, 1, api.ErrArg},
	{"Bits 8", 0x0A000000, 8, api.OK},
	{"Bits 8, the last of them set", 0x0B000000, 8, api.OK},
	{"Bits 8, the bit just behind set", 0x0A800000, 8, api.ErrArg},
	{"Bits 8, a bit in the middle set", 0x0A000800, 8, api.ErrArg},
	{"Bits 8, the lowest bit set", 0x0A000001, 8, api.ErrArg},
	{"Bits 9", 0x0A800000, 9, api.OK},
	{"Bits 24 of nothing but noughts", 0, 24, api.OK},
	{"Bits 24", 0xC0A80100, 24, api.OK},
	{"Bits 24, the bit just behind set", 0xC0A80180, 24, api.ErrArg},
	{"Bits 24, the lowest bit set", 0xC0A80101, 24, api.ErrArg},
	{"Bits 31", 0xFFFFFFFE, 31, api.OK},
	{"Bits 31, the lowest bit set", 0xFFFFFFFF, 31, api.ErrArg},
	{"Bits 32", 0xFFFFFFFF, 32, api.OK},
	{"Bits 32 of the lowest bit alone", 1, 32, api.OK},
	{"Bits 32 of nothing but noughts", 0, 32, api.OK},
	{"Bits 33", 0xFFFFFFFF, 33, api.ErrArg},
	{"Bits 33 of nothing but noughts", 0, 33, api.ErrArg},
	{"Bits 64", 0, 64, api.ErrArg},
	{"Bits 256", 0, 256, api.ErrArg},
	{"Bits of 32 and a ninth bit", 0, 1<<8 + 32, api.ErrArg},
	{"Bits of 32 and a high bit", 0, 1<<(strconv.IntSize-2) + 32, api.ErrArg},
	{"the highest Bits of all", 0, math.MaxInt, api.ErrArg},
}

func TestAddOfOneRoute(t *testing.T) {
	for _, c := range candidates {
		tb, r := New(), mark(c.dst, c.bits, 5)
		wantAdd(t, c.name, tb, r, c.code)
		if c.code != api.OK {
			wantList(t, c.name, tb)
			wantNotFound(t, c.name, tb, c.dst)
		} else {
			wantList(t, c.name, tb, r)
			wantFound(t, c.name, tb, c.dst, r)
		}
	}
}

// A bit that is set is right among the first ones, and wrong behind them.
func TestAddOfEachBitAndEachNumberOfBits(t *testing.T) {
	for bits := range 33 {
		for place := range 32 {
			r := mark(0x80000000>>place, bits, 5)
			tb := New()
			if place < bits {
				wantAdd(t, "a bit among the first", tb, r, api.OK)
				wantList(t, "a bit among the first", tb, r)
			} else {
				wantAdd(t, "a bit behind the first", tb, r, api.ErrArg)
				wantList(t, "a bit behind the first", tb)
			}
		}
	}
}

func TestAddTakesAnyViaAndAnyOut(t *testing.T) {
	for _, r := range []Route{
		{0x0A000000, 8, 0, 0},
		{0x0A000000, 8, 0xFFFFFFFF, math.MaxInt},
		{0x0A000000, 8, 1, -1},
		{0x0A000000, 8, 0x0A000001, math.MinInt},
		{0, 0, 0, 0},
	} {
		tb := tableOf(t, r)
		wantList(t, "one route", tb, r)
		wantFound(t, "one route", tb, r.Dst+7, r)
	}
}

func TestAddTakesThePlaceOfOneThatIsThere(t *testing.T) {
	low, old, high := mark(ip(10, 0, 0, 0), 7, 1), mark(ip(10, 0, 0, 0), 8, 2), mark(ip(10, 0, 0, 0), 9, 3)
	tb := tableOf(t, low, old, high)
	other := mark(old.Dst, old.Bits, 44)
	wantAdd(t, "another Via and Out", tb, other, api.OK)
	wantList(t, "another Via and Out", tb, low, other, high)
	wantFound(t, "another Via and Out", tb, ip(10, 200, 0, 0), other)
	wantAdd(t, "the same once more", tb, other, api.OK)
	wantList(t, "the same once more", tb, low, other, high)
	none := Route{Dst: old.Dst, Bits: old.Bits}
	wantAdd(t, "no Via and no Out", tb, none, api.OK)
	wantList(t, "no Via and no Out", tb, low, none, high)
	wantFound(t, "no Via and no Out", tb, ip(10, 200, 0, 0), none)
}

// One that takes a place needs no room, so that it leaves as much as there was.
func TestAddInAPlaceTakesNoRoom(t *testing.T) {
	routes := sixtyFour()
	tb := tableOf(t, routes[:63]...)
	for n := range 100 {
		routes[5] = mark(routes[5].Dst, routes[5].Bits, 1000+n)
		wantAdd(t, "in a place", tb, routes[5], api.OK)
	}
	wantList(t, "in a place", tb, routes[:63]...)
	wantAdd(t, "the 64th", tb, routes[63], api.OK)
	wantList(t, "the 64th", tb, routes...)
}

func TestAddOfThe64thRouteAndOfThe65th(t *testing.T) {
	if api.MaxRoutes != 64 {
		t.Fatal(api.MaxRoutes)
	}
	routes := sixtyFour()
	tb := tableOf(t, routes[:63]...)
	wantList(t, "63", tb, routes[:63]...)
	wantAdd(t, "the 64th", tb, routes[63], api.OK)
	wantList(t, "64", tb, routes...)
	for _, r := range []Route{
		mark(ip(10, 0, 64, 0), 24, 64),
		mark(ip(10, 0, 5, 0), 25, 65),
		mark(ip(10, 0, 0, 0), 23, 66),
		mark(0, 0, 67),
		mark(ip(10, 0, 5, 1), 32, 68),
	} {
		wantAdd(t, "the 65th", tb, r, api.ErrFull)
		wantList(t, "behind the 65th", tb, routes...)
	}
	wantNotFound(t, "behind the 65th", tb, ip(10, 0, 64, 0))
	wantFound(t, "behind the 65th", tb, ip(10, 0, 5, 1), routes[5])
}

func TestAddInAPlaceOfAFullTable(t *testing.T) {
	routes := sixtyFour()
	tb := tableOf(t, routes...)
	for n, r := range routes {
		routes[n] = mark(r.Dst, r.Bits, 500+n)
		wantAdd(t, "in a place", tb, routes[n], api.OK)
		wantList(t, "in a place", tb, routes...)
	}
	wantAdd(t, "the 65th", tb, mark(ip(10, 0, 64, 0), 24, 64), api.ErrFull)
	wantList(t, "behind the 65th", tb, routes...)
}

// That a route is not right is told ahead of all: of a full table too, and of
// one where the route that it would be with its bits cut is there.
func TestAddTellsTheFirstFault(t *testing.T) {
	routes := append(sixtyFour()[:62], mark(ip(11, 0, 0, 0), 8, 62), mark(0xFFFFFFFF, 32, 63))
	tb := tableOf(t, routes...)
	for _, c := range candidates {
		want := api.ErrFull
		switch {
		case c.code != api.OK:
			want = api.ErrArg
		case c.dst == 0x0B000000 || c.dst == 0xFFFFFFFF:
			continue // these have a place there
		}
		wantAdd(t, c.name, tb, mark(c.dst, c.bits, 99), want)
		wantList(t, c.name, tb, routes...)
	}
	for _, r := range []Route{
		mark(ip(10, 0, 5, 1), 24, 99), mark(ip(10, 0, 5, 128), 24, 99),
		mark(ip(11, 0, 0, 1), 8, 99), mark(ip(11, 128, 0, 0), 8, 99), mark(0xFFFFFFFF, 33, 99),
	} {
		wantAdd(t, "not right, beside one that is there", tb, r, api.ErrArg)
		wantList(t, "not right, beside one that is there", tb, routes...)
	}
}

func TestDelOfARouteThatIsThere(t *testing.T) {
	one, two, three := mark(ip(10, 0, 0, 0), 8, 1), mark(ip(10, 0, 0, 0), 16, 2), mark(ip(11, 0, 0, 0), 8, 3)
	tb := tableOf(t, one, two, three)
	wantDel(t, "the second", tb, two.Dst, two.Bits, api.OK)
	wantList(t, "without the second", tb, one, three)
	wantFound(t, "without the second", tb, ip(10, 0, 0, 1), one)
	wantDel(t, "the second again", tb, two.Dst, two.Bits, api.ErrNone)
	wantList(t, "without the second", tb, one, three)
	wantDel(t, "the first", tb, one.Dst, one.Bits, api.OK)
	wantNotFound(t, "without the first", tb, ip(10, 0, 0, 1))
	wantDel(t, "the third", tb, three.Dst, three.Bits, api.OK)
	wantList(t, "without all", tb)
	wantNotFound(t, "without all", tb, ip(11, 0, 0, 1))
	wantDel(t, "of none", tb, three.Dst, three.Bits, api.ErrNone)
	wantAdd(t, "the second once more", tb, two, api.OK)
	wantList(t, "the second alone", tb, two)
}

func TestDelOfARouteThatIsNotThere(t *testing.T) {
	routes := []Route{mark(0, 0, 1), mark(0, 32, 2), mark(ip(10, 0, 0, 0), 8, 3), mark(0xFFFFFFFF, 32, 4)}
	for _, c := range []struct {
		name string
		dst  api.IP
		bits int
	}{
		{"another Dst", ip(11, 0, 0, 0), 8},
		{"a Dst that is covered", ip(10, 1, 0, 0), 16},
		{"the same Dst, a bit fewer", ip(10, 0, 0, 0), 7},
		{"the same Dst, a bit more", ip(10, 0, 0, 0), 9},
		{"the same Dst, all bits", ip(10, 0, 0, 0), 32},
		{"the same Dst, no bits", ip(10, 0, 0, 0), 0},
		{"the same Dst of noughts, one bit", 0, 1},
		{"the same Dst of noughts, 31 bits", 0, 31},
		{"not right: a bit behind the first", ip(10, 128, 0, 0), 8},
		{"not right: the lowest bit", ip(10, 0, 0, 1), 8},
		{"not right: a bit behind none", 0x80000000, 0},
		{"not right: Bits -1", 0, -1},
		{"not right: Bits 33", 0xFFFFFFFF, 33},
		{"not right: Bits 33 of noughts", 0, 33},
		{"not right: the lowest Bits of all", 0, math.MinInt},
		{"not right: the highest Bits of all", 0xFFFFFFFF, math.MaxInt},
	} {
		tb := tableOf(t, routes...)
		wantDel(t, c.name, tb, c.dst, c.bits, api.ErrNone)
		wantList(t, c.name, tb, routes...)
		wantDel(t, c.name+", of an empty table", New(), c.dst, c.bits, api.ErrNone)
	}
}

func TestDelMakesRoom(t *testing.T) {
	routes := sixtyFour()
	tb := tableOf(t, routes...)
	one, two := mark(ip(10, 0, 64, 0), 24, 64), mark(ip(10, 0, 65, 0), 24, 65)
	wantAdd(t, "no room", tb, one, api.ErrFull)
	wantDel(t, "another", tb, one.Dst, one.Bits, api.ErrNone)
	wantAdd(t, "no room still", tb, one, api.ErrFull)
	wantDel(t, "one that is there", tb, routes[7].Dst, routes[7].Bits, api.OK)
	wantAdd(t, "room for one", tb, one, api.OK)
	wantAdd(t, "no room for two", tb, two, api.ErrFull)
	wantList(t, "one in place of another", tb, append(slices.Delete(routes, 7, 8), one)...)
}

func TestTablesHaveNothingToDoWithEachOther(t *testing.T) {
	one, two := New(), New()
	a, b := mark(ip(10, 0, 0, 0), 8, 1), mark(ip(10, 0, 0, 0), 8, 2)
	wantAdd(t, "the first table", one, a, api.OK)
	wantList(t, "the second table", two)
	wantNotFound(t, "the second table", two, ip(10, 0, 0, 1))
	wantDel(t, "the second table", two, a.Dst, a.Bits, api.ErrNone)
	wantAdd(t, "the second table", two, b, api.OK)
	wantFound(t, "the first table", one, ip(10, 0, 0, 1), a)
	wantFound(t, "the second table", two, ip(10, 0, 0, 1), b)
	wantDel(t, "the first table", one, a.Dst, a.Bits, api.OK)
	wantNotFound(t, "the first table", one, ip(10, 0, 0, 1))
	wantList(t, "the second table", two, b)
	for _, r := range sixtyFour() {
		wantAdd(t, "the first table", one, r, api.OK)
	}
	wantAdd(t, "the first table, which is full", one, a, api.ErrFull)
	wantAdd(t, "the second table, which is not", two, mark(ip(11, 0, 0, 0), 8, 3), api.OK)
}
