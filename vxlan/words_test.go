package vxlan

import (
	"bytes"
	"slices"
	"testing"

	"underpass/samples"
)

// plainEncap and plainDecap do as the words of K1 say, byte by byte.
func plainEncap(id uint32, frame []byte) ([]byte, string) {
	switch {
	case id > 16777215:
		return nil, "vxlan: error 1"
	case len(frame) < 14:
		return nil, "vxlan: error 2"
	case len(frame) > 9000:
		return nil, "vxlan: error 7"
	}
	b := []byte{8, 0, 0, 0, byte(id / 65536), byte(id / 256 % 256), byte(id % 256), 0}
	return append(b, frame...), ""
}

func plainDecap(b []byte) (uint32, []byte, string) {
	switch {
	case len(b) < 8:
		return 0, nil, "vxlan: octets: error 2"
	case b[0]/8%2 == 0:
		return 0, nil, "vxlan: error 3"
	case len(b) < 22:
		return 0, nil, "vxlan: error 2"
	case len(b) > 9008:
		return 0, nil, "vxlan: error 7"
	}
	return uint32(b[4])*65536 + uint32(b[5])*256 + uint32(b[6]), b[8:], ""
}

// wantAsWordsSay holds both calls against the words.
func wantAsWordsSay(t *testing.T, id uint32, b []byte) {
	t.Helper()
	want, wrong := plainEncap(id, b)
	if got, err := Encap(id, b); !bytes.Equal(got, want) || samples.Text(err) != wrong {
		t.Fatalf("Encap of %d, %d bytes, %.40X: got %.40X, %v, want %.40X, %s", id, len(b), b, got, err, want, wrong)
	}
	n, frame, wrong := plainDecap(b)
	if m, got, err := Decap(b); m != n || !bytes.Equal(got, frame) || samples.Text(err) != wrong {
		t.Fatalf("Decap of %d bytes, %.40X: got %d, %.40X, %v, want %d, %.40X, %s", len(b), b, m, got, err, n, frame, wrong)
	}
}

func TestBothCallsDoAsTheWordsSay(t *testing.T) {
	n := samples.Noise(11)
	sizes := []int{0, 1, 7, 8, 9, 13, 14, 15, 21, 22, 23, 60, 8999, 9000, 9001, 9007, 9008, 9009, 9010}
	for range 3000 {
		id := uint32(n.Below(1<<31)) >> n.Below(16)
		size := n.Below(40)
		if n.Below(4) == 0 {
			size = sizes[n.Below(len(sizes))]
		}
		b := n.Bytes(size)
		wantAsWordsSay(t, id, b)
		wantAsWordsSay(t, id, b)
	}
}

// No call has to do with those before it, whatever these were handed.
func TestCallsHaveNothingToDoWithEachOther(t *testing.T) {
	for _, c := range packets {
		_, _ = Encap(1<<24, c.frame)
		_, _, _ = Decap([]byte{8})
		_, _, _ = Decap(make([]byte, 60))
		wantPacket(t, c.name, c.id, c.frame, told(c.head, c.frame))
		wantFrame(t, c.name, told(c.head, c.frame), c.id, c.frame)
	}
}

// What octets met is below what this layer tells; its own error is right below.
func TestWhichLayersAnErrorWentBy(t *testing.T) {
	_, _, err := Decap(make([]byte, 7))
	if got := samples.Layers(err); !slices.Equal(got, []string{"vxlan", "octets"}) {
		t.Fatalf("seven bytes: %v", got)
	}
	_, _, err = Decap(append([]byte{8}, make([]byte, 7)...))
	if got := samples.Layers(err); !slices.Equal(got, []string{"vxlan"}) {
		t.Fatalf("eight bytes: %v", got)
	}
	_, err = Encap(1, nil)
	if got := samples.Layers(err); !slices.Equal(got, []string{"vxlan"}) {
		t.Fatalf("no frame: %v", got)
	}
}

func FuzzBothCalls(f *testing.F) {
	for _, c := range packets {
		f.Add(c.id, c.frame)
		f.Add(c.id, told(c.head, c.frame))
		f.Add(c.id|1<<24, told(c.head, c.frame[:13]))
	}
	for n := range 9 {
		f.Add(uint32(n), bytes.Repeat([]byte{8}, n))
	}
	f.Fuzz(func(t *testing.T, id uint32, b []byte) {
		wantAsWordsSay(t, id, b)
		if id, frame, err := Decap(b); err == nil {
			wantFrame(t, "what was put in again", told([]byte{8, 0, 0, 0, byte(id >> 16), byte(id >> 8), byte(id), 0}, frame), id, frame)
		}
	})
}
