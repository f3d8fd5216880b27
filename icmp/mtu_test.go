package icmp

import "testing"

func wantMTU(t *testing.T, m Message, n int, ok bool) {
	t.Helper()
	if got, has := MTU(m); got != n || has != ok {
		t.Fatalf("%+v: got %d, %v, want %d, %v", m, got, has, n, ok)
	}
}

func TestMTUOfEachTypeAndCode(t *testing.T) {
	for typ := range 256 {
		for code := range 256 {
			m := Message{byte(typ), byte(code), 1450, []byte{1, 2, 3}}
			if typ == 3 && code == 4 {
				wantMTU(t, m, 1450, true)
			} else {
				wantMTU(t, m, 0, false)
			}
		}
	}
	wantMTU(t, Message{}, 0, false)
}

// Any number is told, even one that no packet fits into: 0 is one of them.
func TestMTUOfEachNumber(t *testing.T) {
	for n := range 1 << 16 {
		for _, high := range []uint32{0, 0x00010000, 0x7FFF0000, 0x80000000, 0xFFFF0000} {
			wantMTU(t, Message{Unreachable, FragNeeded, high | uint32(n), nil}, n, true)
			wantMTU(t, Message{Unreachable, FragNeeded - 1, high | uint32(n), nil}, 0, false)
		}
	}
}

func TestMTUOfEachBit(t *testing.T) {
	for bit := range 32 {
		n := 0
		if bit < 16 {
			n = 1 << bit
		}
		wantMTU(t, Message{Unreachable, FragNeeded, 1 << bit, nil}, n, true)
	}
}

func TestMTULeavesTheMessage(t *testing.T) {
	m := Message{Unreachable, FragNeeded, 0xFFFF05AA, []byte{1, 2, 3}}
	wantMTU(t, m, 1450, true)
	if !same(m, Message{Unreachable, FragNeeded, 0xFFFF05AA, []byte{1, 2, 3}}) {
		t.Fatalf("got %+v", m)
	}
}
