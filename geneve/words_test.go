package geneve

import (
	"bytes"
	"slices"
	"testing"

	"underpass/api"
	"underpass/samples"
)

// The plain calls do as the words of L1 and L2 say, byte by byte.
func plainRight(l []api.Option) string {
	size := 0
	for _, o := range l {
		switch len(o.B) % 4 {
		case 1, 2, 3:
			return "geneve: error 1"
		}
		if len(o.B) >= 125 {
			return "geneve: error 1"
		}
	}
	for _, o := range l {
		size += 4 + len(o.B)
	}
	if size >= 253 {
		return "geneve: error 7"
	}
	return ""
}

func plainEncap(id uint32, l []api.Option, frame []byte) ([]byte, string) {
	if id > 16777215 {
		return nil, "geneve: error 1"
	}
	if wrong := plainRight(l); wrong != "" {
		return nil, wrong
	}
	switch {
	case len(frame) < 14:
		return nil, "geneve: error 2"
	case len(frame) > 9000:
		return nil, "geneve: error 7"
	}
	var behind []byte
	var crit byte
	for _, o := range l {
		if o.Type > 127 {
			crit = 64
		}
		behind = append(behind, byte(o.Class/256), byte(o.Class%256), o.Type, byte(len(o.B)/4))
		behind = append(behind, o.B...)
	}
	b := []byte{byte(len(behind) / 4), crit, 0x65, 0x58, byte(id / 65536), byte(id / 256 % 256), byte(id % 256), 0}
	return append(append(b, behind...), frame...), ""
}

func plainDecap(b []byte) (id uint32, l []api.Option, frame []byte, wrong string) {
	if len(b) < 8 {
		return 0, nil, nil, "geneve: octets: error 2"
	}
	if b[0] >= 64 || b[1] >= 128 {
		return 0, nil, nil, "geneve: error 3"
	}
	if b[2] != 101 || b[3] != 88 {
		return 0, nil, nil, "geneve: error 12"
	}
	size := int(b[0]) * 4
	if len(b)-8 < size {
		return 0, nil, nil, "geneve: octets: error 2"
	}
	crit := false
	for rest := b[8 : 8+size]; len(rest) > 0; {
		if len(rest) < 4 || rest[3] > 31 || len(rest) < 4+4*int(rest[3]) {
			return 0, nil, nil, "geneve: error 3"
		}
		end := 4 + 4*int(rest[3])
		l = append(l, api.Option{Class: uint16(rest[0])*256 + uint16(rest[1]), Type: rest[2], B: rest[4:end]})
		crit = crit || rest[2] > 127
		rest = rest[end:]
	}
	frame = b[8+size:]
	switch {
	case crit != (b[1]/64 == 1):
		return 0, nil, nil, "geneve: error 3"
	case len(frame) < 14:
		return 0, nil, nil, "geneve: error 2"
	case len(frame) > 9000:
		return 0, nil, nil, "geneve: error 7"
	}
	return uint32(b[4])*65536 + uint32(b[5])*256 + uint32(b[6]), l, frame, ""
}

func wantEncapAsWordsSay(t *testing.T, id uint32, l []api.Option, frame []byte) {
	t.Helper()
	if got, wrong := Right(l), plainRight(l); samples.Text(got) != wrong {
		t.Fatalf("Right of %v: got %v, want %s", l, got, wrong)
	}
	want, wrong := plainEncap(id, l, frame)
	if got, err := Encap(id, l, frame); !bytes.Equal(got, want) || samples.Text(err) != wrong {
		t.Fatalf("Encap of %d, %v, %d bytes: got %.60X, %v, want %.60X, %s", id, l, len(frame), got, err, want, wrong)
	}
	if wrong == "" {
		wantFrame(t, "what was put in", want, id, l, frame)
	}
}

func wantDecapAsWordsSay(t *testing.T, b []byte) {
	t.Helper()
	id, l, frame, wrong := plainDecap(b)
	n, m, got, err := Decap(b)
	if n != id || !samples.Alike(m, l) || !bytes.Equal(got, frame) || samples.Text(err) != wrong {
		t.Fatalf("Decap of %d bytes, %.60X: got %d, %v, %.40X, %v, want %d, %v, %.40X, %s", len(b), b, n, m, got, err, id, l, frame, wrong)
	}
}

// someList has options of which most may be.
func someList(n *samples.Noise) []api.Option {
	var l []api.Option
	for range n.Of(0, 1, 1, 2, 3, 5, 62, 63, 64) {
		size := 4 * n.Below(33) / n.Of(1, 2, 4, 8, 16) / 4 * 4
		if n.Below(40) == 0 {
			size = n.Below(140)
		}
		l = append(l, api.Option{Class: uint16(n.Below(1 << 16)), Type: uint8(n.Below(n.Of(128, 256))), B: n.Bytes(size)})
	}
	return l
}

func TestEncapDoesAsTheWordsSay(t *testing.T) {
	n := samples.Noise(12)
	for range 6000 {
		id := uint32(n.Below(1<<31)) >> n.Below(16)
		frame := n.Bytes(n.Of(0, 13, 14, 15, 60, 60, 60, n.Below(30)))
		l := someList(&n)
		wantEncapAsWordsSay(t, id, l, frame)
		wantEncapAsWordsSay(t, id, l, frame)
	}
	for range 100 {
		wantEncapAsWordsSay(t, uint32(n.Below(1<<24)), someList(&n), n.Bytes(n.Of(8999, 9000, 9001)))
	}
}

// Most of what is handed in is what Encap made, with some bytes that are other
// ones, and cut somewhere.
func TestDecapDoesAsTheWordsSay(t *testing.T) {
	n := samples.Noise(13)
	for range 20000 {
		b, _ := plainEncap(uint32(n.Below(1<<24)), someList(&n), n.Bytes(14+n.Below(20)))
		for range n.Of(0, 0, 1, 2) {
			if len(b) > 0 {
				b[n.Below(min(len(b), n.Of(2, 8, 16, 300)))] ^= byte(1 << n.Below(8))
			}
		}
		if n.Below(3) == 0 {
			b = b[:n.Below(len(b)+1)]
		}
		wantDecapAsWordsSay(t, b)
		wantDecapAsWordsSay(t, b)
	}
	for _, size := range []int{8999, 9000, 9001} {
		b, _ := plainEncap(5, listOf(4, 8), samples.Frame(9000))
		wantDecapAsWordsSay(t, append(b, samples.Frame(3)...)[:len(b)-9000+size])
	}
}

// No call has to do with those before it, whatever these were handed.
func TestCallsHaveNothingToDoWithEachOther(t *testing.T) {
	for _, c := range packets {
		_ = Right(listOf(124, 124))
		_, _ = Encap(1<<24, c.l, c.frame)
		_, _ = Encap(1, listOf(3), c.frame)
		_, _, _, _ = Decap([]byte{8})
		_, _, _, _ = Decap(make([]byte, 60))
		wantPacket(t, c.name, c.id, c.l, c.frame, told(c.head, c.frame))
		wantFrame(t, c.name, told(c.head, c.frame), c.id, c.l, c.frame)
	}
}

// What octets met is below what this layer tells; its own error is right below,
// and is told once, also where it is Right's.
func TestWhichLayersAnErrorWentBy(t *testing.T) {
	_, _, _, err := Decap(make([]byte, 7))
	if got := samples.Layers(err); !slices.Equal(got, []string{"geneve", "octets"}) {
		t.Fatalf("seven bytes: %v", got)
	}
	_, _, _, err = Decap([]byte{1, 0, 0x65, 0x58, 0, 0, 5, 0, 0, 0, 0, 1})
	if got := samples.Layers(err); !slices.Equal(got, []string{"geneve"}) {
		t.Fatalf("an option that needs more: %v", got)
	}
	_, err = Encap(1, listOf(1), samples.Frame(14))
	if got := samples.Layers(err); !slices.Equal(got, []string{"geneve"}) {
		t.Fatalf("an option that may not be: %v", got)
	}
	_, err = Encap(1, nil, nil)
	if got := samples.Layers(err); !slices.Equal(got, []string{"geneve"}) {
		t.Fatalf("no frame: %v", got)
	}
}

func FuzzDecap(f *testing.F) {
	for _, c := range packets {
		f.Add(told(c.head, c.frame))
		f.Add(c.head)
		f.Add(told(c.head, c.frame[:13]))
	}
	for n := range 9 {
		f.Add(bytes.Repeat([]byte{8}, n))
	}
	f.Fuzz(func(t *testing.T, b []byte) {
		wantDecapAsWordsSay(t, b)
		if id, l, frame, err := Decap(b); err == nil {
			wantEncapAsWordsSay(t, id, l, frame)
		}
	})
}
