package basic_test

import (
	"testing"

	"forecourt/api"
	"forecourt/basic"
)

func TestEventWords(t *testing.T) {
	words := []string{"", "enter", "out", "back", "shop", "done", "leave", "come", "gone"}
	for kind, word := range words {
		if got := basic.EventKind(word); got != kind {
			t.Errorf("%q is kind %d", word, got)
		}
		if got := basic.EventWord(kind); got != word {
			t.Errorf("kind %d is %q", kind, got)
		}
	}
	for _, word := range []string{"ente", "enters", "Enter", "book", "-"} {
		if kind := basic.EventKind(word); kind != 0 {
			t.Errorf("%q is kind %d", word, kind)
		}
	}
}

func TestCompareEvents(t *testing.T) {
	l := []api.Event{{At: 3, Vehicle: "v9", Kind: 8}, {At: 20, Vehicle: "v1"}, {At: 20, Vehicle: "v10"}, {At: 20, Vehicle: "v2"}, {At: 100}}
	for i, a := range l {
		for j, b := range l {
			want := min(1, max(-1, i-j))
			if got := basic.CompareEvents(a, b); got != want {
				t.Errorf("%v and %v compare as %d", a, b, got)
			}
		}
	}
	a, b := l[1], l[1]
	b.Kind, b.Station, b.To = 7, "s1", "s2"
	if basic.CompareEvents(a, b) != 0 {
		t.Errorf("the order looks at more than the moment and the vehicle")
	}
}

// The states that an event can change are in the tests of lot; here is what becomes of each one.
func TestFollow(t *testing.T) {
	at := func(state int, station string) api.State { return api.State{State: state, Station: station, Since: 5} }
	none, ready, hired, shop, moving, gone := api.State{}, at(1, "s1"), at(2, ""), at(3, "s1"), at(4, "s1"), at(5, "")
	next := map[int]map[api.State]api.State{
		api.EventEnter: {none: {State: 1, Station: "s1", Since: 9}},
		api.EventOut:   {ready: {State: 2, Since: 9}},
		api.EventBack:  {hired: {State: 1, Station: "s1", Since: 9}},
		api.EventShop:  {ready: {State: 3, Station: "s1", Since: 9}},
		api.EventDone:  {shop: {State: 1, Station: "s1", Since: 9}},
		api.EventLeave: {ready: {State: 4, Station: "s2", Since: 9}},
		api.EventCome:  {moving: {State: 1, Station: "s1", Since: 9}},
		api.EventGone:  {ready: {State: 5, Since: 9}},
	}
	elsewhere := []api.State{at(1, "s2"), at(3, "s2"), at(4, "s2")}
	for kind, changes := range next {
		v := api.Event{At: 9, Vehicle: "v1", Station: "s1", Kind: kind}
		if kind == api.EventLeave {
			v.To = "s2"
		}
		for _, s := range append(elsewhere, none, ready, hired, shop, moving, gone) {
			want, changed := changes[s]
			if !changed {
				want = s
			}
			if got, ok := basic.Follow(s, v); got != want || ok != changed {
				t.Errorf("kind %d makes %v of %v: %t", kind, got, s, ok)
			}
		}
	}
}
