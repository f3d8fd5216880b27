// Package octets is layer 1: see shared/doc/01-octets.md.
package octets

import "underpass/api"

const layer = "octets"

// number is what the bytes of a reader are read as.
type number interface {
	uint8 | uint16 | uint32
}

// Reader takes bytes from the left (A1).
type Reader struct {
	left []byte
}

// Read reads bytes (A1).
func Read(b []byte) *Reader { return &Reader{own(b)} }

// U8 takes a number of one byte.
func (r *Reader) U8() (uint8, error) { return read[uint8](r, 1) }

// U16 takes a number of two bytes.
func (r *Reader) U16() (uint16, error) { return read[uint16](r, 2) }

// U32 takes a number of four bytes.
func (r *Reader) U32() (uint32, error) { return read[uint32](r, 4) }

// Bytes takes n bytes.
func (r *Reader) Bytes(n int) ([]byte, error) {
	if n < 0 {
		return nil, api.Wrap(layer, api.ErrArg)
	}
	b, err := r.take(n)
	if err != nil {
		return nil, err
	}
	return own(b), nil
}

// Rest takes all that are left.
func (r *Reader) Rest() []byte {
	b := own(r.left)
	r.left = nil
	return b
}

// Left tells how many are left.
func (r *Reader) Left() int { return len(r.left) }

// Done is an error, if any are left.
func (r *Reader) Done() error {
	if len(r.left) > 0 {
		return api.Wrap(layer, api.ErrForm)
	}
	return nil
}

// take ends what it answers where its room ends, so that nobody can reach the
// bytes that are still left through it. n is not below 0.
func (r *Reader) take(n int) ([]byte, error) {
	if n > len(r.left) {
		return nil, api.Wrap(layer, api.ErrShort)
	}
	b := r.left[:n:n]
	r.left = r.left[n:]
	return b, nil
}

// read gathers in the widest number, since a shift by eight bits is all that a
// number of one byte has.
func read[N number](r *Reader, size int) (N, error) {
	b, err := r.take(size)
	if err != nil {
		return 0, err
	}
	var n uint32
	for _, x := range b {
		n = n<<8 | uint32(x)
	}
	return N(n), nil
}

// Writer puts bytes one behind the other (A2).
type Writer struct {
	written []byte
}

// U8 puts a number of one byte.
func (w *Writer) U8(n uint8) *Writer { return w.put(uint32(n), 1) }

// U16 puts a number of two bytes.
func (w *Writer) U16(n uint16) *Writer { return w.put(uint32(n), 2) }

// U32 puts a number of four bytes.
func (w *Writer) U32(n uint32) *Writer { return w.put(n, 4) }

// Bytes puts bytes.
func (w *Writer) Bytes(b []byte) *Writer {
	w.written = append(w.written, b...)
	return w
}

// Done tells all that was written.
func (w *Writer) Done() []byte { return own(w.written) }

// put begins at the highest byte that a number of this size has.
func (w *Writer) put(n uint32, size int) *Writer {
	switch size {
	case 4:
		w.written = append(w.written, byte(n>>24))
		fallthrough
	case 3:
		w.written = append(w.written, byte(n>>16))
		fallthrough
	case 2:
		w.written = append(w.written, byte(n>>8))
		fallthrough
	case 1:
		w.written = append(w.written, byte(n))
	}
	return w
}

// own never answers nil: a writer that has written nothing tells no bytes, not
// none.
func own(b []byte) []byte {
	c := make([]byte, len(b))
	copy(c, b)
	return c
}
