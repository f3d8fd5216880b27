// Package samples is what the tests make their inputs of. No layer calls it.
package samples

import (
	"bytes"
	"errors"
	"slices"
	"strings"

	"underpass/api"
)

// Noise is a row of numbers that are the same in each run, and look like no
// row.
type Noise uint64

// Below is the next number: from 0 to one less than the limit.
func (n *Noise) Below(limit int) int {
	*n = *n*6364136223846793005 + 1442695040888963407
	return int(uint64(*n)>>33) % limit
}

// Bytes are so many bytes that look like no row.
func (n *Noise) Bytes(size int) []byte {
	b := make([]byte, size)
	for i := range b {
		b[i] = byte(n.Below(256))
	}
	return b
}

// Of is one of the numbers.
func (n *Noise) Of(numbers ...int) int { return numbers[n.Below(len(numbers))] }

// Frame is so many bytes, of which those beside each other are unlike.
func Frame(size int) []byte {
	b := make([]byte, size)
	for i := range b {
		b[i] = byte(i*7 + i>>8 + 0x31)
	}
	return b
}

// Text is an error's text, and none of nil.
func Text(err error) string {
	if err == nil {
		return ""
	}
	return err.Error()
}

// Layers are those that an error went by, the outermost first.
func Layers(err error) []string {
	var names []string
	for {
		w, ok := err.(*api.Wrong)
		if !ok {
			return names
		}
		names = append(names, w.Layer)
		err = w.Err
	}
}

// IsWrong tells whether an error is a number that went by just these layers,
// the outermost first, with the text that it has by that.
func IsWrong(err error, code api.Errno, layers ...string) bool {
	text := strings.Join(append(slices.Clone(layers), code.Error()), ": ")
	return Text(err) == text && slices.Equal(Layers(err), layers) && errors.Is(err, code) && api.Code(err) == code
}

// Own is the same list of options with bytes of its own.
func Own(l []api.Option) []api.Option {
	l = slices.Clone(l)
	for i := range l {
		l[i].B = bytes.Clone(l[i].B)
	}
	return l
}

// Alike tells whether two lists of options say the same; nil and empty do.
func Alike(a, b []api.Option) bool {
	return slices.EqualFunc(a, b, func(x, y api.Option) bool {
		return x.Class == y.Class && x.Type == y.Type && bytes.Equal(x.B, y.B)
	})
}

// Spoil writes over bytes, and behind their end as far as they have room.
func Spoil(b []byte) {
	for i := range b[:cap(b)] {
		b[:cap(b)][i] = 0xE7
	}
}
