package octets

import (
	"bytes"
	"errors"
	"math"
	"testing"

	"underpass/api"
)

// wantWrong asks for an error that octets, and no other layer, has wrapped.
func wantWrong(t *testing.T, what string, err error, code api.Errno) {
	t.Helper()
	var w *api.Wrong
	if !errors.As(err, &w) {
		t.Fatalf("%s: got %v, want an error of a layer", what, err)
	}
	if w.Layer != "octets" || w.Err != error(code) {
		t.Fatalf("%s: got %v, want octets: %v", what, err, code)
	}
	if err.Error() != "octets: "+code.Error() || api.Code(err) != code {
		t.Fatalf("%s: got %q, code %d, want code %d", what, err, api.Code(err), code)
	}
}

func wantBytes(t *testing.T, what string, got, want []byte) {
	t.Helper()
	if !bytes.Equal(got, want) {
		t.Fatalf("%s: got % X, want % X", what, got, want)
	}
}

// wantLeft looks at what is left without any call that takes.
func wantLeft(t *testing.T, what string, r *Reader, n int) {
	t.Helper()
	if r.Left() != n {
		t.Fatalf("%s: got %d left, want %d", what, r.Left(), n)
	}
}

// numbers are the calls that read a number, by how many bytes they take.
var numbers = []struct {
	name string
	size int
	read func(r *Reader) (uint32, error)
}{
	{"U8", 1, func(r *Reader) (uint32, error) { n, err := r.U8(); return uint32(n), err }},
	{"U16", 2, func(r *Reader) (uint32, error) { n, err := r.U16(); return uint32(n), err }},
	{"U32", 4, func(r *Reader) (uint32, error) { return r.U32() }},
}

func TestReaderNumbersAreReadHighestByteFirst(t *testing.T) {
	tests := []struct {
		size int
		b    []byte
		want uint32
	}{
		{1, []byte{0}, 0},
		{1, []byte{0x80}, 0x80},
		{1, []byte{0xFF}, 0xFF},
		{2, []byte{0, 5}, 5},
		{2, []byte{5, 0}, 0x0500},
		{2, []byte{0x12, 0x34}, 0x1234},
		{2, []byte{0xFF, 0xFF}, 0xFFFF},
		{4, []byte{0, 0, 0, 0}, 0},
		{4, []byte{0x12, 0x34, 0x56, 0x78}, 0x12345678},
		{4, []byte{0x80, 0, 0, 1}, 0x80000001},
		{4, []byte{0xFF, 0xFF, 0xFF, 0xFF}, 0xFFFFFFFF},
	}
	for _, c := range numbers {
		for _, x := range tests {
			if x.size != c.size {
				continue
			}
			r := Read(append(bytes.Clone(x.b), 0xAA))
			n, err := c.read(r)
			if err != nil || n != x.want {
				t.Fatalf("%s of % X: got %X, %v, want %X", c.name, x.b, n, err, x.want)
			}
			wantBytes(t, c.name+", what is left", r.Rest(), []byte{0xAA})
		}
	}
}

func TestReaderTakesFromTheLeft(t *testing.T) {
	r := Read([]byte{1, 2, 3, 4, 5, 6, 7, 8, 9, 10})
	if n, err := r.U8(); n != 1 || err != nil {
		t.Fatalf("U8: got %d, %v", n, err)
	}
	wantLeft(t, "behind U8", r, 9)
	if n, err := r.U16(); n != 0x0203 || err != nil {
		t.Fatalf("U16: got %X, %v", n, err)
	}
	wantLeft(t, "behind U16", r, 7)
	if n, err := r.U32(); n != 0x04050607 || err != nil {
		t.Fatalf("U32: got %X, %v", n, err)
	}
	wantLeft(t, "behind U32", r, 3)
	b, err := r.Bytes(2)
	if err != nil {
		t.Fatalf("Bytes: %v", err)
	}
	wantBytes(t, "Bytes", b, []byte{8, 9})
	wantLeft(t, "behind Bytes", r, 1)
	wantBytes(t, "Rest", r.Rest(), []byte{10})
	wantLeft(t, "behind Rest", r, 0)
}

func TestReaderNumbersThatAreShortTakeNothing(t *testing.T) {
	all := []byte{0xA1, 0xA2, 0xA3}
	for _, c := range numbers {
		for left := range c.size {
			r := Read(all[:left])
			for range 2 {
				n, err := c.read(r)
				wantWrong(t, c.name, err, api.ErrShort)
				if n != 0 {
					t.Fatalf("%s beside an error: got %X, want 0", c.name, n)
				}
				wantLeft(t, c.name, r, left)
			}
			wantBytes(t, c.name+", what is left", r.Rest(), all[:left])
		}
	}
}

func TestReaderReadsOnBehindAnError(t *testing.T) {
	r := Read([]byte{1, 2, 3})
	_, err := r.U32()
	wantWrong(t, "U32", err, api.ErrShort)
	if n, err := r.U16(); n != 0x0102 || err != nil {
		t.Fatalf("U16 behind an error: got %X, %v", n, err)
	}
	_, err = r.U16()
	wantWrong(t, "U16", err, api.ErrShort)
	if n, err := r.U8(); n != 3 || err != nil {
		t.Fatalf("U8 behind an error: got %X, %v", n, err)
	}
	_, err = r.U8()
	wantWrong(t, "U8", err, api.ErrShort)
}

func TestReaderBytes(t *testing.T) {
	all := []byte{1, 2, 3, 4, 5}
	for n := range len(all) + 1 {
		r := Read(all)
		b, err := r.Bytes(n)
		if err != nil {
			t.Fatalf("Bytes(%d): %v", n, err)
		}
		wantBytes(t, "Bytes", b, all[:n])
		wantBytes(t, "what is left", r.Rest(), all[n:])
	}
}

func TestReaderBytesThatAreShortTakeNothing(t *testing.T) {
	all := []byte{1, 2, 3}
	for left := range len(all) + 1 {
		for _, n := range []int{left + 1, left + 2, 1 << 20, math.MaxInt} {
			r := Read(all[:left])
			b, err := r.Bytes(n)
			wantWrong(t, "Bytes", err, api.ErrShort)
			if len(b) != 0 {
				t.Fatalf("Bytes beside an error: got % X", b)
			}
			wantBytes(t, "what is left", r.Rest(), all[:left])
		}
	}
}

func TestReaderBytesOfANumberBelowNought(t *testing.T) {
	for _, all := range [][]byte{nil, {1}, {1, 2, 3}} {
		for _, n := range []int{-1, -2, -len(all) - 1, math.MinInt} {
			r := Read(all)
			b, err := r.Bytes(n)
			wantWrong(t, "Bytes", err, api.ErrArg)
			if len(b) != 0 {
				t.Fatalf("Bytes beside an error: got % X", b)
			}
			wantBytes(t, "what is left", r.Rest(), all)
		}
	}
}

func TestReaderRestTakesAll(t *testing.T) {
	r := Read([]byte{1, 2, 3})
	if _, err := r.U8(); err != nil {
		t.Fatal(err)
	}
	wantBytes(t, "Rest", r.Rest(), []byte{2, 3})
	wantLeft(t, "behind Rest", r, 0)
	wantBytes(t, "Rest again", r.Rest(), nil)
	if err := r.Done(); err != nil {
		t.Fatalf("Done behind Rest: %v", err)
	}
	_, err := r.U8()
	wantWrong(t, "U8 behind Rest", err, api.ErrShort)
}

func TestReaderDone(t *testing.T) {
	r := Read([]byte{1, 2})
	for left := 2; left > 0; left-- {
		wantWrong(t, "Done", r.Done(), api.ErrForm)
		wantLeft(t, "behind Done", r, left)
		if n, err := r.U8(); int(n) != 3-left || err != nil {
			t.Fatalf("U8 behind Done: got %d, %v", n, err)
		}
	}
	if err := r.Done(); err != nil {
		t.Fatalf("Done of nothing left: got %v, want nil", err)
	}
}

func TestReaderOfNothing(t *testing.T) {
	for _, b := range [][]byte{nil, {}} {
		r := Read(b)
		wantLeft(t, "nothing", r, 0)
		if err := r.Done(); err != nil {
			t.Fatalf("Done: %v", err)
		}
		if got, err := r.Bytes(0); len(got) != 0 || err != nil {
			t.Fatalf("Bytes(0): got % X, %v", got, err)
		}
		wantBytes(t, "Rest", r.Rest(), nil)
		_, err := r.Bytes(1)
		wantWrong(t, "Bytes(1)", err, api.ErrShort)
	}
}

func TestReaderHasItsOwnCopy(t *testing.T) {
	b := []byte{1, 2, 3, 4, 5, 6, 7, 8}
	r := Read(b[:7])
	clear(b)
	if n, err := r.U8(); n != 1 || err != nil {
		t.Fatalf("U8: got %d, %v", n, err)
	}
	if n, err := r.U16(); n != 0x0203 || err != nil {
		t.Fatalf("U16: got %X, %v", n, err)
	}
	got, err := r.Bytes(2)
	if err != nil {
		t.Fatal(err)
	}
	wantBytes(t, "Bytes", got, []byte{4, 5})
	wantBytes(t, "Rest", r.Rest(), []byte{6, 7})
}

func TestReaderLeavesWhatItWasHanded(t *testing.T) {
	b := []byte{1, 2, 3, 4, 5, 6}
	r := Read(b[:4])
	head, err := r.Bytes(2)
	if err != nil {
		t.Fatal(err)
	}
	rest := r.Rest()
	clear(append(head, 9, 9))
	clear(head)
	clear(append(rest, 9, 9))
	clear(rest)
	wantBytes(t, "what was handed in", b, []byte{1, 2, 3, 4, 5, 6})
}

func TestReaderAnswersAreTheCallers(t *testing.T) {
	r := Read([]byte{1, 2, 3, 4, 5, 6})
	again := *r
	one, err := r.Bytes(2)
	if err != nil {
		t.Fatal(err)
	}
	clear(one)
	if grown := append(one, 0, 0); len(grown) != 4 {
		t.Fatal("append")
	}
	two, err := r.Bytes(2)
	if err != nil {
		t.Fatal(err)
	}
	wantBytes(t, "bytes behind those that were written over", two, []byte{3, 4})
	clear(two)
	rest := r.Rest()
	wantBytes(t, "Rest", rest, []byte{5, 6})
	clear(rest)
	wantBytes(t, "what another reader reads", again.Rest(), []byte{1, 2, 3, 4, 5, 6})
}

func TestReadersOfTheSameBytes(t *testing.T) {
	b := []byte{1, 2, 3}
	one, two := Read(b), Read(b)
	wantBytes(t, "the first one", one.Rest(), b)
	wantLeft(t, "the second one", two, 3)
	wantBytes(t, "the second one", two.Rest(), b)
}
