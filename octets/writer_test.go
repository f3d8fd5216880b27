package octets

import (
	"bytes"
	"testing"
)

func TestWriterOfNothing(t *testing.T) {
	var zero Writer
	for _, w := range []*Writer{&zero, {}, new(Writer), new(Writer).Bytes(nil), new(Writer).Bytes([]byte{})} {
		if b := w.Done(); b == nil || len(b) != 0 {
			t.Fatalf("Done of nothing written: got %#v, want no bytes, but not none", b)
		}
	}
}

func TestWriterPutsTheHighestByteFirst(t *testing.T) {
	tests := []struct {
		what string
		w    *Writer
		want []byte
	}{
		{"U8(0)", new(Writer).U8(0), []byte{0}},
		{"U8(FF)", new(Writer).U8(0xFF), []byte{0xFF}},
		{"U16(0)", new(Writer).U16(0), []byte{0, 0}},
		{"U16(5)", new(Writer).U16(5), []byte{0, 5}},
		{"U16(1234)", new(Writer).U16(0x1234), []byte{0x12, 0x34}},
		{"U16(FFFF)", new(Writer).U16(0xFFFF), []byte{0xFF, 0xFF}},
		{"U32(0)", new(Writer).U32(0), []byte{0, 0, 0, 0}},
		{"U32(5)", new(Writer).U32(5), []byte{0, 0, 0, 5}},
		{"U32(12345678)", new(Writer).U32(0x12345678), []byte{0x12, 0x34, 0x56, 0x78}},
		{"U32(FFFFFFFF)", new(Writer).U32(0xFFFFFFFF), []byte{0xFF, 0xFF, 0xFF, 0xFF}},
		{"Bytes", new(Writer).Bytes([]byte{3, 2, 1}), []byte{3, 2, 1}},
	}
	for _, x := range tests {
		wantBytes(t, x.what, x.w.Done(), x.want)
	}
}

func TestWriterPutsBehindWhatItHas(t *testing.T) {
	var w Writer
	w.Bytes([]byte{1, 2}).U8(3).Bytes(nil).U32(0x04050607).U16(0x0809).Bytes([]byte{10})
	wantBytes(t, "Done", w.Done(), []byte{1, 2, 3, 4, 5, 6, 7, 8, 9, 10})
}

func TestWriterCallsAnswerTheWriter(t *testing.T) {
	w := new(Writer)
	if w.U8(1) != w || w.U16(1) != w || w.U32(1) != w || w.Bytes(nil) != w || w.Bytes([]byte{1}) != w {
		t.Fatal("a call answers another writer")
	}
}

func TestWriterKeepsNothingThatItWasHanded(t *testing.T) {
	b := []byte{1, 2, 3}
	w := new(Writer).Bytes(b[:2])
	clear(b)
	wantBytes(t, "Done", w.Done(), []byte{1, 2})
	w.U8(9)
	wantBytes(t, "what was handed in", b, []byte{0, 0, 0})
}

func TestWriterDoneIsTheCallers(t *testing.T) {
	w := new(Writer).U16(0x0102)
	one := w.Done()
	two := w.Done()
	clear(one)
	clear(append(one, 7, 7))
	wantBytes(t, "another answer", two, []byte{1, 2})
	wantBytes(t, "Done again", w.Done(), []byte{1, 2})
	w.U8(3)
	wantBytes(t, "an answer of before", two, []byte{1, 2})
	wantBytes(t, "Done behind one more", w.Done(), []byte{1, 2, 3})
}

func TestWritersAreApart(t *testing.T) {
	var one, two Writer
	one.U8(1)
	two.U16(2)
	one.U8(3)
	wantBytes(t, "the first one", one.Done(), []byte{1, 3})
	wantBytes(t, "the second one", two.Done(), []byte{0, 2})
}

func TestWriterOfManyBytes(t *testing.T) {
	var w Writer
	var want []byte
	for i := range 70000 {
		w.U8(uint8(i))
		want = append(want, uint8(i))
	}
	w.Bytes(want)
	wantBytes(t, "Done", w.Done(), append(bytes.Clone(want), want...))
}

func TestWhatIsWrittenIsRead(t *testing.T) {
	for i := range 1 << 16 {
		a, b, c := uint8(i), uint16(i), uint32(i)*0x9E3779B1
		tail := bytes.Repeat([]byte{a}, i%5)
		r := Read(new(Writer).U8(a).U32(c).Bytes(tail).U16(b).Done())
		if n, err := r.U8(); n != a || err != nil {
			t.Fatalf("U8: got %X, %v, want %X", n, err, a)
		}
		if n, err := r.U32(); n != c || err != nil {
			t.Fatalf("U32: got %X, %v, want %X", n, err, c)
		}
		got, err := r.Bytes(len(tail))
		if err != nil {
			t.Fatal(err)
		}
		wantBytes(t, "Bytes", got, tail)
		if n, err := r.U16(); n != b || err != nil {
			t.Fatalf("U16: got %X, %v, want %X", n, err, b)
		}
		if err := r.Done(); err != nil {
			t.Fatal(err)
		}
	}
}
