package inner

import (
	"testing"

	"underpass/api"
)

func TestRightOfEachSize(t *testing.T) {
	room := make([]byte, 9100)
	for n := range room {
		var want error
		switch {
		case n < 14:
			want = api.ErrShort
		case n > 9000:
			want = api.ErrBig
		}
		if err := Right(room[:n]); err != want {
			t.Fatalf("%d bytes: got %v, want %v", n, err, want)
		}
	}
	if err := Right(nil); err != api.ErrShort {
		t.Fatalf("nil: got %v", err)
	}
}

func TestIDsAreThoseOfThreeBytes(t *testing.T) {
	if IDs != 0xFFFFFF+1 {
		t.Fatalf("%d ids", IDs)
	}
}
