package basic_test

import (
	"testing"

	"forecourt/api"
	"forecourt/basic"
)

func TestLasts(t *testing.T) {
	back := api.Leg{Out: api.Reading{At: 5}, In: api.Reading{At: 9}}
	if w := basic.Lasts(back); w != (api.Window{From: 5, To: 9}) {
		t.Errorf("a leg that is back lasts %v", w)
	}
	out := api.Leg{Out: api.Reading{At: 5}, In: api.Reading{At: basic.NotBack}}
	if w := basic.Lasts(out); w != (api.Window{From: 5, To: api.End}) {
		t.Errorf("a leg that is out lasts %v", w)
	}
}

func TestOverlap(t *testing.T) {
	w := api.Window{From: 10, To: 20}
	for other, want := range map[api.Window]int{
		{From: 0, To: 10}:      0,
		{From: 0, To: 11}:      1,
		{From: 0, To: 30}:      10,
		{From: 10, To: 20}:     10,
		{From: 12, To: 15}:     3,
		{From: 15, To: 15}:     0,
		{From: 19, To: 30}:     1,
		{From: 20, To: 30}:     0,
		{From: 25, To: 30}:     0,
		{From: 0, To: api.End}: 10,
	} {
		if n := basic.Overlap(w, other); n != want {
			t.Errorf("%v shares %d moments", other, n)
		}
		if n := basic.Overlap(other, w); n != want {
			t.Errorf("%v is shared by %d moments", other, n)
		}
	}
}
