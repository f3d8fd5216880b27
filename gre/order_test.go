package gre

import (
	"testing"

	"underpass/samples"
)

// edges are numbers about which an Order's numbers go round, or are halfway.
var edges = []uint32{0, 1, 2, 5, 1<<31 - 2, 1<<31 - 1, 1 << 31, 1<<31 + 1, 1<<32 - 2, 1<<32 - 1}

// begun is an Order that has accepted one number.
func begun(t *testing.T, last uint32) *Order {
	t.Helper()
	o := new(Order)
	wantAccepted(t, o, last)
	return o
}

func wantAccepted(t *testing.T, o *Order, seq uint32) {
	t.Helper()
	if !o.Accept(seq) {
		t.Fatalf("%08X was not accepted", seq)
	}
}

func wantNotAccepted(t *testing.T, o *Order, seq uint32) {
	t.Helper()
	if o.Accept(seq) {
		t.Fatalf("%08X was accepted", seq)
	}
}

// wantLast asks for the last number that was accepted, by those that a copy of
// the Order accepts: those that are one and 2^31 - 1 ahead of it, but none of
// their neighbours.
func wantLast(t *testing.T, o *Order, last uint32) {
	t.Helper()
	for _, way := range edges {
		probe := *o
		if got, want := probe.Accept(last+way), way >= 1 && way <= 1<<31-1; got != want {
			t.Fatalf("behind %08X, %08X ahead: got %v, want %v", last, way, got, want)
		}
	}
}

func TestAZeroOrderAcceptsAnyNumber(t *testing.T) {
	for _, first := range append([]uint32{0xDEADBEEF, 1 << 30, 3 << 30}, edges...) {
		var o Order
		wantAccepted(t, &o, first)
		wantNotAccepted(t, &o, first)
		wantLast(t, &o, first)
	}
	for bit := range 32 {
		wantLast(t, begun(t, 1<<bit), 1<<bit)
	}
}

// Each number that is one of the edges ahead of one of the edges: also where
// the numbers go round.
func TestAcceptOfEachEdgeBehindEachEdge(t *testing.T) {
	for _, last := range edges {
		for _, way := range edges {
			o, seq := begun(t, last), last+way
			if way >= 1 && way <= 1<<31-1 {
				wantAccepted(t, o, seq)
				wantLast(t, o, seq)
			} else {
				wantNotAccepted(t, o, seq)
				wantLast(t, o, last)
			}
		}
	}
}

func TestAcceptOfEachBitAhead(t *testing.T) {
	for _, last := range edges {
		for bit := range 31 {
			wantAccepted(t, begun(t, last), last+1<<bit)
			wantNotAccepted(t, begun(t, last), last-1<<bit)
		}
		wantNotAccepted(t, begun(t, last), last+1<<31)
	}
}

func TestAcceptOfNumbersInARow(t *testing.T) {
	for _, first := range []uint32{0, 1<<31 - 500, 1<<32 - 500} {
		o := new(Order)
		for i := range uint32(1000) {
			wantAccepted(t, o, first+i)
			wantNotAccepted(t, o, first+i)
			if i > 0 {
				wantNotAccepted(t, o, first+i-1)
				wantNotAccepted(t, o, first)
			}
		}
	}
}

// What is not accepted leaves the last one as it was, however much comes.
func TestWhatIsNotAcceptedChangesNothing(t *testing.T) {
	for _, last := range edges {
		o := begun(t, last)
		for i := range uint32(100) {
			wantNotAccepted(t, o, last-i)
			wantNotAccepted(t, o, last+1<<31)
			wantNotAccepted(t, o, last+1<<31+i)
			wantLast(t, o, last)
		}
		wantAccepted(t, o, last+1<<31-1)
		wantNotAccepted(t, o, last)
		wantLast(t, o, last+1<<31-1)
	}
}

// The same number, once it is ahead again, is accepted again.
func TestAcceptGoesRound(t *testing.T) {
	o := begun(t, 0)
	for range 5 {
		wantAccepted(t, o, 1<<31-1)
		wantAccepted(t, o, 1<<32-2)
		wantAccepted(t, o, 0)
		wantNotAccepted(t, o, 0)
	}
	wantAccepted(t, o, 7)
	wantNotAccepted(t, o, 0)
	wantNotAccepted(t, o, 1<<32-1)
}

func TestTwoOrdersHaveNothingToDoWithEachOther(t *testing.T) {
	var one, two Order
	wantAccepted(t, &one, 100)
	wantAccepted(t, &two, 5)
	wantNotAccepted(t, &one, 6)
	wantAccepted(t, &two, 6)
	wantAccepted(t, &one, 101)
	wantLast(t, &one, 101)
	wantLast(t, &two, 6)

	three := one
	wantAccepted(t, &three, 102)
	wantLast(t, &one, 101)
	wantAccepted(t, &one, 200)
	wantLast(t, &three, 102)

	many := make([]Order, 50)
	for i := range many {
		wantAccepted(t, &many[i], uint32(1000*i))
	}
	for i := range many {
		wantLast(t, &many[i], uint32(1000*i))
	}
	one = Order{}
	wantAccepted(t, &one, 3)
}

// plainAccept does as the words of M2 say, with numbers that do not go round.
func plainAccept(last, seq uint32) bool {
	ahead := (int64(seq) - int64(last) + 4294967296) % 4294967296
	return 1 <= ahead && ahead <= 2147483647
}

func TestAcceptDoesAsTheWordsSay(t *testing.T) {
	n := samples.Noise(23)
	some := func() uint32 { return uint32(n.Below(1<<31))<<1 | uint32(n.Below(2)) }
	accepted, refused := 0, 0
	for range 500 {
		last := some()
		o := begun(t, last)
		for range 200 {
			seq := some()
			switch n.Below(4) {
			case 0:
				seq = last + uint32(n.Below(5)) - 2
			case 1:
				seq = last + 1<<31 + uint32(n.Below(5)) - 2
			}
			want := plainAccept(last, seq)
			if got := o.Accept(seq); got != want {
				t.Fatalf("%08X behind %08X: got %v, want %v", seq, last, got, want)
			}
			if want {
				last = seq
				accepted++
			} else {
				refused++
			}
		}
	}
	if accepted < 10000 || refused < 10000 {
		t.Fatalf("%d were accepted, %d were not", accepted, refused)
	}
}

func FuzzAccept(f *testing.F) {
	for _, last := range edges {
		f.Add(last, last+1, last+1<<31)
	}
	f.Fuzz(func(t *testing.T, last, one, two uint32) {
		o := begun(t, last)
		for _, seq := range []uint32{one, two, last} {
			want := plainAccept(last, seq)
			if got := o.Accept(seq); got != want {
				t.Fatalf("%08X behind %08X: got %v, want %v", seq, last, got, want)
			}
			if want {
				last = seq
			}
		}
	})
}
