package samples

import (
	"bytes"
	"errors"
	"testing"

	"underpass/api"
)

func TestIsWrong(t *testing.T) {
	one, two := api.Wrap("a", api.ErrShort), api.Wrap("b", api.Wrap("a", api.ErrShort))
	if !IsWrong(one, api.ErrShort, "a") || !IsWrong(two, api.ErrShort, "b", "a") || !IsWrong(api.ErrShort, api.ErrShort) {
		t.Fatal("an error is not what it is")
	}
	for i, wrong := range []bool{
		IsWrong(nil, api.OK),
		IsWrong(nil, api.OK, "a"),
		IsWrong(one, api.ErrBig, "a"),
		IsWrong(one, api.ErrShort),
		IsWrong(one, api.ErrShort, "b"),
		IsWrong(one, api.ErrShort, "b", "a"),
		IsWrong(one, api.ErrShort, "a", "a"),
		IsWrong(two, api.ErrShort, "a", "b"),
		IsWrong(two, api.ErrShort, "b"),
		IsWrong(two, api.ErrShort, "a"),
		IsWrong(api.Wrap("b: a", api.ErrShort), api.ErrShort, "b", "a"),
		IsWrong(api.Wrap("a", errors.New("error 2")), api.ErrShort, "a"),
		IsWrong(errors.New("a: error 2"), api.ErrShort, "a"),
	} {
		if wrong {
			t.Fatalf("%d: an error is what it is not", i)
		}
	}
}

func TestSpoilReachesAllRoom(t *testing.T) {
	room := []byte{1, 2, 3, 4, 5}
	Spoil(room[1:2:4])
	if !bytes.Equal(room, []byte{1, 0xE7, 0xE7, 0xE7, 5}) {
		t.Fatalf("got % X", room)
	}
	Spoil(nil)
}
