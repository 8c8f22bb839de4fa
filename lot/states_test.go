package lot_test

import (
	"fmt"
	"math"
	"math/rand"
	"slices"
	"testing"

	"forecourt/api"
	"forecourt/lot"
)

// reach has events that bring v1 to a state, with the station air, if it has one.
func reach(state int) []api.Event {
	enter := event(1, "v1", api.EventEnter, "air")
	switch state {
	case api.StateReady:
		return []api.Event{enter}
	case api.StateHired:
		return []api.Event{enter, event(2, "v1", api.EventOut, "air")}
	case api.StateShop:
		return []api.Event{enter, event(2, "v1", api.EventShop, "air")}
	case api.StateMoving:
		return []api.Event{event(1, "v1", api.EventEnter, "south"), leave(2, "v1", "south", "air")}
	case api.StateGone:
		return []api.Event{enter, event(2, "v1", api.EventGone, "air")}
	}
	return nil
}

// rows is the table of P1.5; anywhere: the event can be at any station, or, where it is false, at that of the state before.
var rows = []struct {
	kind, before, after int
	anywhere            bool
}{
	{api.EventEnter, api.StateNone, api.StateReady, true},
	{api.EventOut, api.StateReady, api.StateHired, false},
	{api.EventBack, api.StateHired, api.StateReady, true},
	{api.EventShop, api.StateReady, api.StateShop, false},
	{api.EventDone, api.StateShop, api.StateReady, false},
	{api.EventLeave, api.StateReady, api.StateMoving, false},
	{api.EventCome, api.StateMoving, api.StateReady, false},
	{api.EventGone, api.StateReady, api.StateGone, false},
}

// stateAfter is what the table says of an event at 10 in a state with the station air; and whether it is broken.
func stateAfter(before api.State, v api.Event) (api.State, bool) {
	for _, row := range rows {
		if row.kind != v.Kind || row.before != before.State || !row.anywhere && v.Station != "air" {
			continue
		}
		after := api.State{State: row.after, Since: v.At}
		switch row.after {
		case api.StateReady, api.StateShop:
			after.Station = v.Station
		case api.StateMoving:
			after.Station = v.To
		}
		return after, false
	}
	return before, true
}

// P1.5: each event, at the station of the state and at another one, in each state.
func TestTable(t *testing.T) {
	f := fleet()
	for state := api.StateNone; state <= api.StateGone; state++ {
		past := reach(state)
		before, e := lot.StateOf(f, past, "v1", 9)
		is(t, "before", e, api.OK)
		is(t, "before", before.State, state)
		for kind := api.EventEnter; kind <= api.EventGone; kind++ {
			for _, station := range []string{"air", "north"} {
				v := event(10, "v1", kind, station)
				if kind == api.EventLeave {
					v.To = "south"
				}
				l := append(slices.Clone(past), v)
				mustCheck(t, f, l)
				what := fmt.Sprint("event ", kind, " at ", station, " in state ", state)
				want, broken := stateAfter(before, v)
				got, _ := lot.StateOf(f, l, "v1", 10)
				is(t, what, got, want)
				numbers, e := lot.Broken(f, l)
				is(t, what, e, api.OK)
				if broken {
					same(t, what, numbers, []int{len(past)})
				} else {
					same(t, what, numbers, nil)
				}
			}
		}
	}
}

// P1.5
func TestStateOf(t *testing.T) {
	f := fleet()
	l := []api.Event{
		event(100, "v1", api.EventEnter, "air"),
		event(150, "v2", api.EventEnter, "north"),
		event(200, "v1", api.EventOut, "air"),
		event(300, "v1", api.EventOut, "air"), // broken
		leave(310, "v2", "north", "south"),
		event(320, "v1", api.EventBack, "north"),
		event(330, "v2", api.EventCome, "north"), // broken
		event(340, "v2", api.EventCome, "south"),
		event(350, "v1", api.EventGone, "north"),
	}
	cases := []struct {
		vehicle string
		at      int
		want    api.State
	}{
		{"v1", 0, api.State{}},
		{"v1", 99, api.State{}},
		{"v1", 100, api.State{State: api.StateReady, Station: "air", Since: 100}},
		{"v1", 199, api.State{State: api.StateReady, Station: "air", Since: 100}},
		{"v1", 200, api.State{State: api.StateHired, Since: 200}},
		{"v1", 319, api.State{State: api.StateHired, Since: 200}},
		{"v1", 320, api.State{State: api.StateReady, Station: "north", Since: 320}},
		{"v1", 350, api.State{State: api.StateGone, Since: 350}},
		{"v1", api.End - 1, api.State{State: api.StateGone, Since: 350}},
		{"v2", 149, api.State{}},
		{"v2", 310, api.State{State: api.StateMoving, Station: "south", Since: 310}},
		{"v2", 330, api.State{State: api.StateMoving, Station: "south", Since: 310}},
		{"v2", 340, api.State{State: api.StateReady, Station: "south", Since: 340}},
		{"v3", api.End - 1, api.State{}},
	}
	for _, c := range cases {
		s, e := lot.StateOf(f, l, c.vehicle, c.at)
		is(t, fmt.Sprint(c.vehicle, " at ", c.at), s, c.want)
		is(t, fmt.Sprint(c.vehicle, " at ", c.at), e, api.OK)
	}
	broken, _ := lot.Broken(f, l)
	same(t, "broken", broken, []int{3, 6})
	at0, _ := lot.StateOf(f, []api.Event{event(0, "v1", api.EventEnter, "air")}, "v1", 0)
	is(t, "at 0", at0, api.State{State: api.StateReady, Station: "air"})
}

// P1.5
func TestStateErrors(t *testing.T) {
	f, l := fleet(), reach(api.StateHired)
	cases := []struct {
		vehicle string
		at      int
		want    api.Errno
	}{
		{"v9", 5, api.ErrNone}, {"", 5, api.ErrNone}, {"v9", -1, api.ErrNone},
		{"v1", -1, api.ErrArg}, {"v1", api.End, api.ErrArg}, {"v1", math.MinInt, api.ErrArg}, {"v1", math.MaxInt, api.ErrArg},
	}
	for _, c := range cases {
		s, e := lot.StateOf(f, l, c.vehicle, c.at)
		is(t, "StateOf", s, api.State{})
		is(t, "StateOf", e, c.want)
	}
	checksFirst(t, "StateOf", func(f api.Fleet, l []api.Event) api.Errno { _, e := lot.StateOf(f, l, "v9", -1); return e })
	checksFirst(t, "Broken", func(f api.Fleet, l []api.Event) api.Errno { _, e := lot.Broken(f, l); return e })
	broken, e := lot.Broken(badFleet(), []api.Event{event(1, "v1", api.EventOut, "air")})
	same(t, "Broken", broken, nil)
	is(t, "Broken", e, badFleetError)
}

// enterAll has all vehicles ready at the station air: v1 since 1, v2 since 2 ..
func enterAll() []api.Event {
	var l []api.Event
	for i, v := range fleet().Vehicles {
		l = append(l, event(i+1, v.Key, api.EventEnter, "air"))
	}
	return l
}

// P1.5
func TestReady(t *testing.T) {
	f := fleet()
	l := append(enterAll(),
		event(20, "v2", api.EventOut, "air"),
		leave(30, "v1", "air", "north"),
		event(40, "v3", api.EventShop, "air"),
		event(50, "v2", api.EventBack, "north"),
		event(60, "v1", api.EventCome, "north"),
	)
	mustCheck(t, f, l)
	cases := []struct {
		station, class string
		at             int
		want           []string
	}{
		{"air", "mini", 10, []string{"v2", "v4", "v3", "v1"}},
		{"air", "midi", 10, []string{"v3", "v1"}},
		{"air", "maxi", 10, []string{"v1"}},
		{"air", "van", 10, []string{"v5", "v1"}},
		{"air", "bike", 10, []string{"v6"}},
		{"air", "mini", 0, nil},
		{"air", "mini", 2, []string{"v2", "v1"}},
		{"air", "mini", 20, []string{"v4", "v3", "v1"}},
		{"air", "mini", 30, []string{"v4", "v3"}},
		{"air", "mini", 40, []string{"v4"}},
		{"north", "mini", 49, nil},
		{"north", "mini", 50, []string{"v2"}},
		{"north", "mini", 59, []string{"v2"}},
		{"north", "mini", 60, []string{"v2", "v1"}},
		{"south", "mini", api.End - 1, nil},
	}
	for _, c := range cases {
		keys, e := lot.Ready(f, l, c.station, c.class, c.at)
		what := fmt.Sprint(c.class, " at ", c.station, " at ", c.at)
		same(t, what, keys, c.want)
		is(t, what, e, api.OK)
	}
}

// P1.5
func TestReadyErrors(t *testing.T) {
	cases := []struct {
		station, class string
		at             int
		want           api.Errno
	}{
		{"east", "mini", 10, api.ErrNone}, {"", "mini", 10, api.ErrNone},
		{"air", "lorry", 10, api.ErrNone}, {"air", "", 10, api.ErrNone},
		{"east", "mini", -1, api.ErrNone}, {"air", "lorry", -1, api.ErrNone},
		{"air", "mini", -1, api.ErrArg}, {"air", "mini", api.End, api.ErrArg},
		{"air", "mini", math.MinInt, api.ErrArg}, {"air", "mini", math.MaxInt, api.ErrArg},
	}
	for _, c := range cases {
		keys, e := lot.Ready(fleet(), enterAll(), c.station, c.class, c.at)
		same(t, "Ready", keys, nil)
		is(t, "Ready", e, c.want)
	}
	checksFirst(t, "Ready", func(f api.Fleet, l []api.Event) api.Errno { _, e := lot.Ready(f, l, "east", "mini", -1); return e })
}

// P1.5
func TestIdle(t *testing.T) {
	f := fleet()
	l := append(enterAll(),
		event(20, "v2", api.EventOut, "air"),
		event(30, "v2", api.EventBack, "north"),
		event(40, "v3", api.EventShop, "air"),
		leave(40, "v4", "air", "south"),
		event(40, "v5", api.EventGone, "air"),
		event(41, "v6", api.EventBack, "air"), // broken: it stays ready
	)
	mustCheck(t, f, l)
	cases := []struct {
		least, at int
		want      []string
	}{
		{0, 0, nil},
		{0, 1, []string{"v1"}},
		{1, 1, nil},
		{5, 6, []string{"v1"}},
		{4, 6, []string{"v1", "v2"}},
		{0, 25, []string{"v1", "v3", "v4", "v5", "v6"}},
		{0, 30, []string{"v1", "v2", "v3", "v4", "v5", "v6"}},
		{1, 30, []string{"v1", "v3", "v4", "v5", "v6"}},
		{0, 50, []string{"v1", "v2", "v6"}},
		{20, 50, []string{"v1", "v2", "v6"}},
		{21, 50, []string{"v1", "v6"}},
		{44, 50, []string{"v1", "v6"}},
		{45, 50, []string{"v1"}},
		{api.End, api.End - 1, nil},
		{api.End - 2, api.End - 1, []string{"v1"}},
	}
	for _, c := range cases {
		keys, e := lot.Idle(f, l, c.least, c.at)
		what := fmt.Sprint(c.least, " at ", c.at)
		same(t, what, keys, c.want)
		is(t, what, e, api.OK)
	}
	for _, c := range [][2]int{{-1, 0}, {api.End + 1, 0}, {0, -1}, {0, api.End}, {math.MinInt, 5}, {math.MaxInt, 5}, {5, math.MinInt}, {5, math.MaxInt}} {
		keys, e := lot.Idle(f, l, c[0], c[1])
		same(t, "Idle", keys, nil)
		is(t, "Idle", e, api.ErrArg)
	}
	checksFirst(t, "Idle", func(f api.Fleet, l []api.Event) api.Errno { _, e := lot.Idle(f, l, -1, -1); return e })
}

// P1.5: Ready and Idle are what StateOf and Steps say of each vehicle, and a log without its broken events leads to the same.
func TestStatesAtRandom(t *testing.T) {
	r := rand.New(rand.NewSource(6))
	f := fleet()
	for range 60 {
		l := logOf(r, f, 80, 120)
		broken, _ := lot.Broken(f, l)
		var good []api.Event
		for i, v := range l {
			if !slices.Contains(broken, i) {
				good = append(good, v)
			}
		}
		rest, _ := lot.Broken(f, good)
		same(t, "none of the others is broken", rest, nil)
		at, least := r.Intn(125), r.Intn(30)
		station, class := f.Stations[r.Intn(3)].Key, f.Classes[r.Intn(5)].Key
		var idle []string
		bySteps := make([][]string, len(f.Classes))
		for _, v := range f.Vehicles {
			s, _ := lot.StateOf(f, l, v.Key, at)
			again, _ := lot.StateOf(f, good, v.Key, at)
			is(t, "without the broken ones", again, s)
			if s.State != api.StateReady {
				continue
			}
			if at-s.Since >= least {
				idle = append(idle, v.Key)
			}
			if steps, ok, _ := lot.Steps(f.Classes, class, v.Class); ok && s.Station == station {
				bySteps[steps] = append(bySteps[steps], v.Key)
			}
		}
		got, _ := lot.Idle(f, l, least, at)
		same(t, "Idle", got, idle)
		got, _ = lot.Ready(f, l, station, class, at)
		same(t, "Ready", got, slices.Concat(bySteps...))
	}
}
