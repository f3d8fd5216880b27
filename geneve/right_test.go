package geneve

import (
	"slices"
	"testing"

	"underpass/api"
	"underpass/samples"
)

func TestRightOfEachSizeOfAB(t *testing.T) {
	for n := range 400 {
		if n%4 == 0 && n <= 124 {
			wantRight(t, "a B", listOf(n))
		} else {
			wantNotRight(t, "a B that may not be so", listOf(n), api.ErrArg)
		}
	}
	for _, n := range []int{1<<16 - 4, 1 << 16, 1<<16 + 4, 1000000} {
		wantNotRight(t, "a large B", listOf(n), api.ErrArg)
	}
}

func TestRightOfNoOptions(t *testing.T) {
	wantRight(t, "nil", nil)
	wantRight(t, "an empty list", []api.Option{})
	wantRight(t, "an empty list with room", listOf(1, 2, 3)[:0])
}

func TestRightOfABThatIsNil(t *testing.T) {
	wantRight(t, "a B of nil", []api.Option{{}})
	wantRight(t, "an empty B with room", []api.Option{{B: make([]byte, 0, 5)}})
	wantRight(t, "a B with room", []api.Option{{B: make([]byte, 4, 1000)}})
}

// What counts is each B, and four more of each.
func TestRightOfAllTogether(t *testing.T) {
	for _, sizes := range [][]int{
		{120, 120},
		{124, 116},
		{116, 124},
		{124, 112, 0},
		{80, 80, 76},
	} {
		wantRight(t, "248 bytes", listOf(sizes...))
		wantRight(t, "252 bytes", append(listOf(sizes...), api.Option{Class: 1}))
		wantNotRight(t, "256 bytes, of which one has 4", append(listOf(sizes...), api.Option{B: samples.Frame(4)}), api.ErrBig)
		wantNotRight(t, "256 bytes, of which two have none", append(listOf(sizes...), api.Option{}, api.Option{}), api.ErrBig)
		wantNotRight(t, "260 bytes", append(listOf(sizes...), api.Option{B: samples.Frame(8)}), api.ErrBig)
	}
	wantRight(t, "252 bytes of two", listOf(124, 120))
	wantNotRight(t, "256 bytes of two", listOf(124, 124), api.ErrBig)
}

func TestRightOfManyWithoutAB(t *testing.T) {
	for n := range 300 {
		if l := make([]api.Option, n); n <= 63 {
			wantRight(t, "at most 63 options", l)
		} else {
			wantNotRight(t, "more than 63 options", l, api.ErrBig)
		}
	}
	wantNotRight(t, "options of 2^16 bytes", make([]api.Option, 1<<14), api.ErrBig)
	wantNotRight(t, "a million options", make([]api.Option, 1000000), api.ErrBig)
}

// A B that may not be so is told first, wherever it is.
func TestRightTellsTheBFirst(t *testing.T) {
	for _, bad := range []int{1, 2, 3, 5, 123, 125, 126, 127, 128, 252, 256} {
		large := listOf(124, 120, 4, 124, 0)
		for i := range len(large) + 1 {
			l := slices.Insert(slices.Clone(large), i, api.Option{B: samples.Frame(bad)})
			wantNotRight(t, "a list that is too big, with a B that may not be so", l, api.ErrArg)
		}
		small := listOf(0, 4, 8)
		for i := range len(small) + 1 {
			l := slices.Insert(slices.Clone(small), i, api.Option{B: samples.Frame(bad)})
			wantNotRight(t, "a small list with a B that may not be so", l, api.ErrArg)
		}
	}
	l := append(make([]api.Option, 100000), api.Option{B: samples.Frame(1)})
	wantNotRight(t, "the last one of many", l, api.ErrArg)
	wantNotRight(t, "all but the last one of many", l[:100000], api.ErrBig)
}

// Two Bs that may not be so are not one that may.
func TestRightOfBsThatWouldAddUp(t *testing.T) {
	wantNotRight(t, "1 and 3 bytes", listOf(1, 3), api.ErrArg)
	wantNotRight(t, "2 and 2 bytes", listOf(2, 2), api.ErrArg)
	wantNotRight(t, "four of 1 byte", listOf(1, 1, 1, 1), api.ErrArg)
}

func TestRightLooksAtNoClassOrType(t *testing.T) {
	for n := range 256 {
		wantRight(t, "an option", []api.Option{{Class: uint16(n), Type: uint8(n), B: samples.Frame(4)}, {Class: uint16(n) << 8, Type: uint8(255 - n)}})
	}
}

func TestRightLeavesTheList(t *testing.T) {
	for _, l := range [][]api.Option{listOf(0, 4, 8), listOf(124, 124, 124), listOf(1, 4)} {
		want := samples.Own(l)
		_ = Right(l)
		if !samples.Alike(l, want) {
			t.Fatalf("got %v, want %v", l, want)
		}
	}
}

func TestCriticalOfEachType(t *testing.T) {
	for n := range 256 {
		for _, class := range []uint16{0, 0x80, 0x8000, 0xFFFF} {
			for _, b := range [][]byte{nil, {0x80, 0x80, 0x80, 0x80}, {0xFF}, samples.Frame(200)} {
				if got := Critical(api.Option{Class: class, Type: uint8(n), B: b}); got != (n >= 128) {
					t.Fatalf("Type %d, Class %d: got %v", n, class, got)
				}
			}
		}
	}
}
