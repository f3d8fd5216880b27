package tunnel

import (
	"math"
	"slices"
	"testing"

	"underpass/api"
	"underpass/samples"
)

// nobodys are numbers that are never given where few tunnels were added.
var nobodys = []int{math.MinInt, math.MinInt32, -65, -64, -2, -1, 64, 65, 256, 1 << 16, math.MaxInt32, 1<<32 - 1, 1 << 32, 1<<32 + 1, math.MaxInt}

func TestNumbersOfNone(t *testing.T) {
	tb := New()
	wantNumbers(t, "none", tb)
	wantNotGot(t, "none", tb, 0)
	wantDel(t, "none", tb, 0, api.ErrNone)
	wantNumbers(t, "none still", tb)
}

func TestDelAndGetOfNumbersThatWereNeverGiven(t *testing.T) {
	for _, xs := range [][]Tunnel{nil, sixtyFour()[:1], sixtyFour()} {
		tb := tableOf(t, xs...)
		for _, n := range append(slices.Clone(nobodys), len(xs), len(xs)+1) {
			wantDel(t, "never given", tb, n, api.ErrNone)
			wantNotGot(t, "never given", tb, n)
		}
		wantNumbers(t, "all", tb, upTo(len(xs))...)
		for n, x := range xs {
			wantGot(t, "all", tb, n, x)
		}
	}
}

// Of full tables each tunnel goes, from the first, the last, and the middle on.
func TestDelOfEach(t *testing.T) {
	for _, first := range []int{0, 63, 20} {
		for _, step := range []int{1, 3, 61, 63} {
			xs, left := sixtyFour(), upTo(64)
			tb := tableOf(t, xs...)
			for i := range 64 {
				n := (first + i*step) % 64
				wantDel(t, "one", tb, n, api.OK)
				at := slices.Index(left, n)
				left = slices.Delete(left, at, at+1)
				wantNumbers(t, "what is left", tb, left...)
				wantNotGot(t, "it is gone", tb, n)
				wantNoPacket(t, "it is gone", tb, n, echo, api.ErrNone)
				wantDel(t, "it is gone", tb, n, api.ErrNone)
				for _, m := range left {
					wantGot(t, "the others", tb, m, xs[m])
				}
			}
		}
	}
}

// Each number is given once: also if the last tunnel went, if another one did,
// if all did, and if Add has refused one.
func TestNumbersAreGivenOnce(t *testing.T) {
	tb := tableOf(t, numbered(0), numbered(1), numbered(2))
	wantDel(t, "the last", tb, 2, api.OK)
	wantNumbers(t, "two", tb, 0, 1)
	wantAdd(t, "behind the last one's Del", tb, numbered(2), 3)
	wantDel(t, "the first", tb, 0, api.OK)
	wantAdd(t, "behind the first one's Del", tb, numbered(0), 4)
	wantNumbers(t, "three", tb, 1, 3, 4)
	wantNotAdded(t, "the same", tb, numbered(0), api.ErrState)
	wantNotAdded(t, "one that is not right", tb, Tunnel{}, api.ErrArg)
	wantAdd(t, "behind two that were refused", tb, numbered(5), 5)
	for _, n := range []int{5, 4, 3, 1} {
		wantDel(t, "all", tb, n, api.OK)
	}
	wantNumbers(t, "none", tb)
	wantAdd(t, "behind all", tb, numbered(0), 6)
	wantNumbers(t, "the last one", tb, 6)
	wantNotGot(t, "a number that is gone", tb, 0)
	wantGot(t, "the last one", tb, 6, numbered(0))
}

func TestNumbersBehindAFullTable(t *testing.T) {
	tb := tableOf(t, sixtyFour()...)
	for n := 64; n < 200; n++ {
		wantNotAdded(t, "no room", tb, numbered(n), api.ErrFull)
		wantDel(t, "the oldest", tb, n-64, api.OK)
		wantAdd(t, "the newest", tb, numbered(n), n)
		if got := tb.Numbers(); len(got) != 64 || got[0] != n-63 || got[63] != n || !slices.IsSorted(got) {
			t.Fatalf("Numbers: got %v", got)
		}
	}
}

// One that comes again behind its Del begins anew.
func TestATunnelThatComesAgain(t *testing.T) {
	x := full(api.GRE)
	tb, far := tableOf(t, x), tableOf(t, turned(x))
	first := packed(t, tb, 0, echo)
	for range 3 {
		wantFrame(t, "one behind the other", far, packed(t, tb, 0, echo), 0, echo)
	}
	wantRefused(t, "the first one", far, first, api.ErrLate)
	wantDel(t, "one end", tb, 0, api.OK)
	wantAdd(t, "one end again", tb, x, 1)
	wantPacket(t, "its first one again", tb, 1, echo, first)
	wantRefused(t, "the other end has not gone", far, first, api.ErrLate)
	wantDel(t, "the other end", far, 0, api.OK)
	wantRefused(t, "the other end has gone", far, first, api.ErrPeer)
	wantAdd(t, "the other end again", far, turned(x), 1)
	wantFrame(t, "the first one again", far, first, 1, echo)
}

// What Get and Numbers tell is the caller's.
func TestWhatIsToldIsTheCallers(t *testing.T) {
	for _, kind := range kinds {
		x := full(kind)
		tb, twin := tableOf(t, x, numbered(1), numbered(2)), tableOf(t, x)
		first, _ := tb.Get(0)
		second, _ := tb.Get(0)
		spoil(first)
		if !alike(second, x) {
			t.Fatalf("kind %d: two answers share bytes: %+v", kind, second)
		}
		spoil(second)
		wantGot(t, "written over", tb, 0, x)
		numbers := tb.Numbers()
		for i := range numbers[:cap(numbers)] {
			numbers[:cap(numbers)][i] = 9
		}
		wantNumbers(t, "written over", tb, 0, 1, 2)
		wantPacket(t, "written over", tb, 0, echo, packed(t, twin, 0, echo))
		if !alike(x, full(kind)) {
			t.Fatalf("kind %d: what Get tells shares what Add was handed", kind)
		}
	}
}

// What is told stays, whatever is done to the table behind that.
func TestWhatIsToldStays(t *testing.T) {
	tb := tableOf(t, full(api.Geneve), numbered(1), numbered(2), numbered(3))
	numbers := tb.Numbers()
	x, _ := tb.Get(0)
	for n := range 3 {
		wantDel(t, "one", tb, n, api.OK)
	}
	for n := 4; n < 10; n++ {
		wantAdd(t, "another one", tb, with(full(api.Geneve), func(x *Tunnel) { x.ID = uint32(n) }), n)
	}
	if !slices.Equal(numbers, upTo(4)) || !alike(x, full(api.Geneve)) {
		t.Fatalf("got %v, %+v", numbers, x)
	}
}

// Encap and Decap change nothing of what is told of a tunnel.
func TestPacketsLeaveTunnels(t *testing.T) {
	for _, kind := range kinds {
		tb, far := tableOf(t, full(kind)), tableOf(t, turned(full(kind)))
		for range 5 {
			p := packed(t, tb, 0, samples.Frame(60))
			_, _, _ = far.Decap(p)
			_, _, _ = far.Decap(p)
			_, _, _ = tb.Decap(p)
		}
		wantGot(t, "one end", tb, 0, full(kind))
		wantGot(t, "the other end", far, 0, turned(full(kind)))
		wantNumbers(t, "one end", tb, 0)
		wantNumbers(t, "the other end", far, 0)
	}
}
