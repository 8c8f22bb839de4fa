package basic_test

import (
	"slices"
	"testing"

	"forecourt/api"
	"forecourt/basic"
)

func TestLasts(t *testing.T) {
	back := api.Leg{Out: api.Reading{At: 5}, In: api.Reading{At: 9}}
	if w := basic.Lasts(back); w != (api.Window{From: 5, To: 9}) {
		t.Errorf("a leg that is back lasts %v", w)
	}
	out := api.Leg{Out: api.Reading{At: 5}, In: api.Reading{At: basic.NotBack}}
	if w := basic.Lasts(out); w != (api.Window{From: 5, To: api.End}) {
		t.Errorf("a leg that is out lasts %v", w)
	}
}

func TestOverlap(t *testing.T) {
	w := api.Window{From: 10, To: 20}
	for other, want := range map[api.Window]int{
		{From: 0, To: 10}:      0,
		{From: 0, To: 11}:      1,
		{From: 0, To: 30}:      10,
		{From: 10, To: 20}:     10,
		{From: 12, To: 15}:     3,
		{From: 15, To: 15}:     0,
		{From: 19, To: 30}:     1,
		{From: 20, To: 30}:     0,
		{From: 25, To: 30}:     0,
		{From: 0, To: api.End}: 10,
	} {
		if n := basic.Overlap(w, other); n != want {
			t.Errorf("%v shares %d moments", other, n)
		}
		if n := basic.Overlap(other, w); n != want {
			t.Errorf("%v is shared by %d moments", other, n)
		}
	}
}

func TestHas(t *testing.T) {
	w := api.Window{From: 10, To: 20}
	for at, want := range map[int]bool{-1: false, 9: false, 10: true, 15: true, 19: true, 20: false, api.End: false} {
		if basic.Has(w, at) != want {
			t.Errorf("%v has %d: %t", w, at, !want)
		}
	}
	if basic.Has(api.Window{From: 5, To: 5}, 5) {
		t.Errorf("a window without moments has one")
	}
}

func TestPlateTimes(t *testing.T) {
	l := []api.Plate{
		{From: 0, Vehicle: "v1", Plate: "A1"},  // until v2 gets it
		{From: 5, Vehicle: "v2", Plate: "B2"},  // until v2 gets A1
		{From: 9, Vehicle: "v2", Plate: "A1"},  // until it gets this again
		{From: 12, Vehicle: "v3", Plate: "C3"}, // for ever
		{From: 15, Vehicle: "v2", Plate: "A1"}, // until v1 and v2 change
		{From: 16, Vehicle: "v1", Plate: "D4"},
		{From: 20, Vehicle: "v1", Plate: "A1"},
		{From: 20, Vehicle: "v2", Plate: "D4"},
	}
	want := []api.Window{{From: 0, To: 9}, {From: 5, To: 9}, {From: 9, To: 15}, {From: 12, To: api.End}, {From: 15, To: 20}, {From: 16, To: 20}, {From: 20, To: api.End}, {From: 20, To: api.End}}
	if times := basic.PlateTimes(l); !slices.Equal(times, want) {
		t.Errorf("plates are on their vehicles in %v", times)
	}
	if times := basic.PlateTimes(nil); len(times) != 0 {
		t.Errorf("no plates are on vehicles in %v", times)
	}
}
