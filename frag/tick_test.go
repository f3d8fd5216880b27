package frag

import (
	"math"
	"testing"

	"underpass/api"
)

// The ages of a heap, one by one.
var ages = []struct {
	name                string
	timeout, began, now uint64
	gone                bool
}{
	{"a timeout of 0, at once", 0, 100, 100, true},
	{"a timeout of 0, one later", 0, 100, 101, true},
	{"a timeout of 0, far later", 0, 0, math.MaxUint64, true},
	{"a timeout of 0, one ahead", 0, 100, 99, true}, // no time is as much as 0
	{"a timeout of 0, far ahead", 0, math.MaxUint64, 0, true},
	{"a timeout of 1, at once", 1, 100, 100, false},
	{"a timeout of 1, one later", 1, 100, 101, true},
	{"a timeout of 1, two later", 1, 100, 102, true},
	{"a timeout of 1, one ahead", 1, 100, 99, false},
	{"a timeout of 1, far ahead", 1, math.MaxUint64, 0, false},
	{"30, at once", 30, 100, 100, false},
	{"30, one fewer", 30, 100, 129, false},
	{"30, as many", 30, 100, 130, true},
	{"30, one more", 30, 100, 131, true},
	{"30, far later", 30, 100, math.MaxUint64, true},
	{"30, one ahead", 30, 100, 99, false},
	{"30, 30 ahead", 30, 100, 70, false},
	{"30, far ahead", 30, 100, 0, false},
	{"30, from the first time, one fewer", 30, 0, 29, false},
	{"30, from the first time, as many", 30, 0, 30, true},
	{"30, near the last time, one fewer", 30, math.MaxUint64 - 29, math.MaxUint64, false},
	{"30, near the last time, as many", 30, math.MaxUint64 - 30, math.MaxUint64, true},
	{"30, of the last time, at the first", 30, math.MaxUint64, 0, false},
	{"30, of the last time, near the first", 30, math.MaxUint64 - 10, 25, false},
	{"half of all times, one fewer", 1 << 63, 0, 1<<63 - 1, false},
	{"half of all times, as many", 1 << 63, 0, 1 << 63, true},
	{"half of all times, ahead", 1 << 63, 1 << 63, 0, false},
	{"the longest, one fewer", math.MaxUint64, 0, math.MaxUint64 - 1, false},
	{"the longest, as many", math.MaxUint64, 0, math.MaxUint64, true},
	{"the longest, from 1", math.MaxUint64, 1, math.MaxUint64, false},
	{"the longest, ahead", math.MaxUint64, 1, 0, false},
}

func TestTickAtEachAge(t *testing.T) {
	p, first, second := halves(0)
	for _, x := range ages {
		r := New(x.timeout)
		wantWaits(t, x.name, r, x.began, first)
		if x.gone {
			wantTick(t, x.name, r, x.now, 1)
			wantLen(t, x.name, r, 0)
			wantTick(t, x.name+", again", r, x.now, 0)
			wantWaits(t, x.name, r, x.now, second)
			wantLen(t, x.name, r, 1)
		} else {
			wantTick(t, x.name, r, x.now, 0)
			wantLen(t, x.name, r, 1)
			wantWhole(t, x.name, r, second, x.now, p)
			wantLen(t, x.name, r, 0)
		}
	}
}

// The time is that of the part that came first.
func TestTickGoesByThePartThatCameFirst(t *testing.T) {
	p := packet(0, 40)
	one, two, three := piece(p, 0, 16, true), piece(p, 16, 32, true), piece(p, 32, 40, false)
	for _, later := range []uint64{0, 101, 129, 500} {
		r := New(30)
		wantWaits(t, "the first", r, 100, two)
		wantWaits(t, "later ones", r, later, one, two)
		wantTick(t, "one fewer than 30", r, 129, 0)
		wantLen(t, "one fewer than 30", r, 1)
		wantTick(t, "30", r, 130, 1)
		wantLen(t, "30", r, 0)
		// What comes then begins anew.
		wantWaits(t, "anew", r, 130, three, one)
		wantTick(t, "anew, one fewer than 30", r, 159, 0)
		wantWhole(t, "anew", r, two, 159, p)
	}
}

// A heap that was spoilt or whole has no time any more.
func TestTickGoesByTheHeapThatBeganAnew(t *testing.T) {
	p, first, second := halves(0)
	r := New(30)
	wantWaits(t, "the first", r, 100, first)
	wantNotWhole(t, "spoilt", r, turned(first, 1), 110, of(api.ErrForm))
	wantTick(t, "spoilt", r, 200, 0)
	wantWaits(t, "anew", r, 120, first)
	wantTick(t, "anew", r, 149, 0)
	wantWhole(t, "whole", r, second, 149, p)
	wantTick(t, "whole", r, 500, 0)
	wantWaits(t, "anew", r, 140, second)
	wantTick(t, "anew", r, 169, 0)
	wantTick(t, "anew", r, 170, 1)
	wantLen(t, "anew", r, 0)
}

// What is refused begins nothing.
func TestTickBehindWhatWasRefused(t *testing.T) {
	r := eight(t, 30)
	_, ninth, _ := halves(8)
	wantNotWhole(t, "the ninth", r, ninth, 0, of(api.ErrFull))
	wantNotWhole(t, "not right", r, faulty(0, 0), 0, ofRight(api.ErrArg))
	whole := packet(0, 3)
	wantWhole(t, "no part", r, whole, 0, whole)
	wantTick(t, "refused", r, 129, 0)
	wantEight(t, "refused", r)
}

func TestTickOfSeveralHeaps(t *testing.T) {
	r := eight(t, 30)
	wantTick(t, "none", r, 0, 0)
	wantTick(t, "none yet", r, 129, 0)
	wantLen(t, "none yet", r, 8)
	wantTick(t, "one", r, 130, 1)
	wantLen(t, "one", r, 7)
	wantTick(t, "one, again", r, 130, 0)
	wantTick(t, "three", r, 133, 3)
	wantLen(t, "three", r, 4)
	wantTick(t, "a now that is less", r, 120, 0)
	// Those that are there are the last four.
	for n := range 8 {
		p, _, second := halves(n)
		if n < 4 {
			wantWaits(t, "one that is gone", r, 140, second)
			wantLen(t, "one that is gone", r, n+5)
		} else if n < 6 {
			wantWhole(t, "one that is there", r, second, 140, p)
		}
	}
	wantLen(t, "four new ones and two old ones", r, 6)
	wantTick(t, "two old ones", r, 169, 2)
	wantLen(t, "two old ones", r, 4)
	wantTick(t, "four new ones", r, 170, 4)
	wantLen(t, "four new ones", r, 0)
	wantTick(t, "all are gone", r, math.MaxUint64, 0)
}

func TestTickOfAllEightAtOnce(t *testing.T) {
	for _, timeout := range []uint64{0, 1, 30} {
		r := eight(t, timeout)
		wantTick(t, "all", r, 107+timeout, 8)
		wantLen(t, "all", r, 0)
	}
	r := eight(t, 0)
	wantTick(t, "a timeout of 0, and a now that is less", r, 50, 8)
	wantLen(t, "a timeout of 0, and a now that is less", r, 0)
}

// Heaps that are gone make room.
func TestTakeOfANinthBehindATick(t *testing.T) {
	r := eight(t, 30)
	p, first, second := halves(8)
	wantTick(t, "none", r, 129, 0)
	wantNotWhole(t, "the ninth", r, first, 129, of(api.ErrFull))
	wantTick(t, "one", r, 130, 1)
	wantWaits(t, "the ninth", r, 130, first)
	wantLen(t, "the ninth", r, 8)
	_, again, _ := halves(0)
	wantNotWhole(t, "the first once more", r, again, 130, of(api.ErrFull))
	wantWhole(t, "the ninth", r, second, 130, p)
}
