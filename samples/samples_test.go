package samples

import (
	"bytes"
	"errors"
	"testing"

	"underpass/api"
)

func TestIsWrong(t *testing.T) {
	one, two := api.Wrap("a", api.ErrShort), api.Wrap("b", api.Wrap("a", api.ErrShort))
	if !IsWrong(one, api.ErrShort, "a") || !IsWrong(two, api.ErrShort, "b", "a") || !IsWrong(api.ErrShort, api.ErrShort) {
		t.Fatal("an error is not what it is")
	}
	for i, wrong := range []bool{
		IsWrong(nil, api.OK),
		IsWrong(nil, api.OK, "a"),
		IsWrong(one, api.ErrBig, "a"),
		IsWrong(one, api.ErrShort),
		IsWrong(one, api.ErrShort, "b"),
		IsWrong(one, api.ErrShort, "b", "a"),
		IsWrong(one, api.ErrShort, "a", "a"),
		IsWrong(two, api.ErrShort, "a", "b"),
		IsWrong(two, api.ErrShort, "b"),
		IsWrong(two, api.ErrShort, "a"),
		IsWrong(api.Wrap("b: a", api.ErrShort), api.ErrShort, "b", "a"),
		IsWrong(api.Wrap("a", errors.New("error 2")), api.ErrShort, "a"),
		IsWrong(errors.New("a: error 2"), api.ErrShort, "a"),
	} {
		if wrong {
			t.Fatalf("%d: an error is what it is not", i)
		}
	}
}

func TestAlike(t *testing.T) {
	l := []api.Option{{Class: 1, Type: 2, B: []byte{3, 4}}, {Class: 5}}
	if !Alike(l, []api.Option{{Class: 1, Type: 2, B: []byte{3, 4}}, {Class: 5, B: []byte{}}}) || !Alike(nil, l[:0]) {
		t.Fatal("lists that say the same are not alike")
	}
	for i, other := range [][]api.Option{
		nil,
		l[:1],
		l[1:],
		{l[1], l[0]},
		{l[0], l[1], {}},
		{l[0], {Class: 6}},
		{l[0], {Class: 5, Type: 1}},
		{l[0], {Class: 5, B: []byte{0}}},
		{{Class: 1, Type: 2, B: []byte{3, 5}}, l[1]},
	} {
		if Alike(l, other) || Alike(other, l) {
			t.Fatalf("%d: lists that say another thing are alike", i)
		}
	}
}

func TestOwnSharesNothing(t *testing.T) {
	l := []api.Option{{Class: 1, Type: 2, B: []byte{3, 4}}, {Class: 5}}
	other := Own(l)
	if !Alike(l, other) {
		t.Fatalf("got %v", other)
	}
	Spoil(l[0].B)
	l[1].Class = 9
	if !Alike(other, []api.Option{{Class: 1, Type: 2, B: []byte{3, 4}}, {Class: 5}}) {
		t.Fatalf("got %v once the first list was written over", other)
	}
}

func TestSpoilReachesAllRoom(t *testing.T) {
	room := []byte{1, 2, 3, 4, 5}
	Spoil(room[1:2:4])
	if !bytes.Equal(room, []byte{1, 0xE7, 0xE7, 0xE7, 5}) {
		t.Fatalf("got % X", room)
	}
	Spoil(nil)
}
