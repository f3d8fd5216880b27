package route

import (
	"math"
	"testing"

	"underpass/api"
)

// cut goes through the bits one by one, as the chapter's words say it, to hold
// Cut against it.
func cut(ip api.IP, bits int) api.IP {
	for place := range 32 {
		if bit := api.IP(0x80000000 >> place); place >= bits && ip&bit != 0 {
			ip -= bit
		}
	}
	return ip
}

func TestCut(t *testing.T) {
	for _, c := range []struct {
		ip   api.IP
		bits int
		want api.IP
	}{
		{0xFFFFFFFF, math.MinInt, 0},
		{0xFFFFFFFF, -33, 0},
		{0xFFFFFFFF, -32, 0},
		{0xFFFFFFFF, -1, 0},
		{0xFFFFFFFF, 0, 0},
		{0xFFFFFFFF, 1, 0x80000000},
		{0x7FFFFFFF, 1, 0},
		{0xFFFFFFFF, 2, 0xC0000000},
		{0xFFFFFFFF, 8, 0xFF000000},
		{0xFFFFFFFF, 16, 0xFFFF0000},
		{0xFFFFFFFF, 17, 0xFFFF8000},
		{0xFFFFFFFF, 30, 0xFFFFFFFC},
		{0xFFFFFFFF, 31, 0xFFFFFFFE},
		{0xFFFFFFFF, 32, 0xFFFFFFFF},
		{0xFFFFFFFF, 33, 0xFFFFFFFF},
		{0xFFFFFFFF, 64, 0xFFFFFFFF},
		{0xFFFFFFFF, 65, 0xFFFFFFFF},
		{0xFFFFFFFF, 256, 0xFFFFFFFF},
		{0xFFFFFFFF, math.MaxInt, 0xFFFFFFFF},
		{ip(10, 1, 2, 3), -1, 0},
		{ip(10, 1, 2, 3), 0, 0},
		{ip(10, 1, 2, 3), 1, 0},
		{ip(10, 1, 2, 3), 7, ip(10, 0, 0, 0)},
		{ip(10, 1, 2, 3), 8, ip(10, 0, 0, 0)},
		{ip(10, 1, 2, 3), 16, ip(10, 1, 0, 0)},
		{ip(10, 1, 2, 3), 24, ip(10, 1, 2, 0)},
		{ip(10, 1, 2, 3), 31, ip(10, 1, 2, 2)},
		{ip(10, 1, 2, 3), 32, ip(10, 1, 2, 3)},
		{ip(10, 1, 2, 3), 33, ip(10, 1, 2, 3)},
		{0, -1, 0},
		{0, 16, 0},
		{0, 33, 0},
	} {
		if got := Cut(c.ip, c.bits); got != c.want {
			t.Fatalf("Cut(%08X, %d): got %08X, want %08X", c.ip, c.bits, got, c.want)
		}
	}
}

func TestCutIsWhatTheWordsSay(t *testing.T) {
	for bits := -40; bits <= 80; bits++ {
		for n := range 2000 {
			ip := api.IP(n) * 0x9E3779B1
			if got, want := Cut(ip, bits), cut(ip, bits); got != want {
				t.Fatalf("Cut(%08X, %d): got %08X, want %08X", ip, bits, got, want)
			}
		}
		for place := range 32 {
			ip := api.IP(1) << place
			if got, want := Cut(ip, bits), cut(ip, bits); got != want {
				t.Fatalf("Cut(%08X, %d): got %08X, want %08X", ip, bits, got, want)
			}
			if got, want := Cut(^ip, bits), cut(^ip, bits); got != want {
				t.Fatalf("Cut(%08X, %d): got %08X, want %08X", ^ip, bits, got, want)
			}
		}
	}
}
