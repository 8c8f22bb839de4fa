package lot_test

import (
	"math"
	"math/rand"
	"slices"
	"testing"

	"forecourt/api"
	"forecourt/lot"
)

// P1.4
func TestCheckLog(t *testing.T) {
	good := event(5, "v2", api.EventEnter, "air")
	bad := func(change func(v *api.Event)) api.Event {
		v := good
		change(&v)
		return v
	}
	cases := []struct {
		what string
		l    []api.Event
		want api.Errno
	}{
		{"none", nil, api.OK},
		{"MaxEvents", longLog(fleet(), api.MaxEvents), api.OK},
		{"more", longLog(fleet(), api.MaxEvents+1), api.ErrLarge},
		{"large before all", append([]api.Event{{At: -1}}, longLog(fleet(), api.MaxEvents)...), api.ErrLarge},
		{"the first moment", []api.Event{event(0, "v1", api.EventEnter, "air")}, api.OK},
		{"the last moment", []api.Event{event(api.End-1, "v1", api.EventEnter, "air")}, api.OK},
		{"after it", []api.Event{event(api.End, "v1", api.EventEnter, "air")}, api.ErrArg},
		{"before 0", []api.Event{event(-1, "v1", api.EventEnter, "air")}, api.ErrArg},
		{"great", []api.Event{event(math.MaxInt, "v1", api.EventEnter, "air")}, api.ErrArg},
		{"moment before vehicle", []api.Event{event(-1, "v9", api.EventEnter, "air")}, api.ErrArg},
		{"no vehicle", []api.Event{event(5, "v9", api.EventEnter, "air")}, api.ErrNone},
		{"empty vehicle", []api.Event{event(5, "", api.EventEnter, "air")}, api.ErrNone},
		{"no station", []api.Event{event(5, "v1", api.EventEnter, "east")}, api.ErrNone},
		{"vehicle before kind", []api.Event{event(5, "v9", 0, "air")}, api.ErrNone},
		{"station before kind", []api.Event{event(5, "v1", 0, "")}, api.ErrNone},
		{"kind 0", []api.Event{event(5, "v1", 0, "air")}, api.ErrKind},
		{"kind 9", []api.Event{event(5, "v1", 9, "air")}, api.ErrKind},
		{"kind -1", []api.Event{event(5, "v1", -1, "air")}, api.ErrKind},
		{"great kind", []api.Event{event(5, "v1", math.MaxInt, "air")}, api.ErrKind},
		{"kind before form", []api.Event{bad(func(v *api.Event) { v.Kind, v.To = 9, "air" })}, api.ErrKind},
		{"To without leaving", []api.Event{bad(func(v *api.Event) { v.To = "north" })}, api.ErrForm},
		{"form before loop", []api.Event{bad(func(v *api.Event) { v.To = "air" })}, api.ErrForm},
		{"form before none", []api.Event{bad(func(v *api.Event) { v.To = "east" })}, api.ErrForm},
		{"leaving without To", []api.Event{leave(5, "v1", "air", "")}, api.ErrNone},
		{"leaving to nowhere", []api.Event{leave(5, "v1", "air", "east")}, api.ErrNone},
		{"leaving to the same", []api.Event{leave(5, "v1", "air", "air")}, api.ErrLoop},
		{"leaving", []api.Event{leave(5, "v1", "air", "north")}, api.OK},
		{"loop before order", []api.Event{good, leave(4, "v1", "air", "air")}, api.ErrLoop},
		{"earlier", []api.Event{good, event(4, "v3", api.EventEnter, "air")}, api.ErrOrder},
		{"lesser vehicle", []api.Event{good, event(5, "v1", api.EventEnter, "air")}, api.ErrOrder},
		{"the same", []api.Event{good, good}, api.ErrOrder},
		{"two at one moment", []api.Event{good, event(5, "v2", api.EventOut, "north")}, api.ErrOrder},
		{"order before the next one", []api.Event{good, good, event(-1, "", 0, "")}, api.ErrOrder},
		{"other vehicle", []api.Event{good, event(5, "v3", api.EventEnter, "air")}, api.OK},
		{"later", []api.Event{good, event(6, "v1", api.EventEnter, "air")}, api.OK},
	}
	for kind := api.EventEnter; kind <= api.EventGone; kind++ {
		v := event(5, "v1", kind, "air")
		if kind == api.EventLeave {
			v.To = "south"
		}
		is(t, "each kind", lot.Check(fleet(), []api.Event{v}), api.OK)
	}
	for _, c := range cases {
		is(t, c.what, lot.Check(fleet(), c.l), c.want)
	}
	checksFirst(t, "Check", lot.Check)
}

// P1.4
func TestMerge(t *testing.T) {
	a := event(5, "v1", api.EventEnter, "air")
	b := event(5, "v2", api.EventEnter, "air")
	c := event(6, "v1", api.EventOut, "air")
	d := leave(7, "v2", "air", "north")
	cases := []struct {
		what       string
		a, b, want []api.Event
	}{
		{"nothing", nil, nil, nil},
		{"the first alone", []api.Event{a, b}, nil, []api.Event{a, b}},
		{"the second alone", nil, []api.Event{a, b}, []api.Event{a, b}},
		{"by vehicle", []api.Event{b}, []api.Event{a}, []api.Event{a, b}},
		{"by time", []api.Event{c}, []api.Event{b}, []api.Event{b, c}},
		{"one after the other", []api.Event{a, c}, []api.Event{b, d}, []api.Event{a, b, c, d}},
		{"equal ones", []api.Event{a, c, d}, []api.Event{a, b, d}, []api.Event{a, b, c, d}},
		{"all equal", []api.Event{a, c, d}, []api.Event{a, c, d}, []api.Event{a, c, d}},
	}
	for _, c := range cases {
		l, e := lot.Merge(fleet(), c.a, c.b)
		same(t, c.what, l, c.want)
		is(t, c.what, e, api.OK)
	}
}

// P1.4
func TestMergeErrors(t *testing.T) {
	good := []api.Event{leave(5, "v1", "air", "north"), event(9, "v1", api.EventCome, "north")}
	kind, form := event(5, "v2", 9, "air"), event(5, "v2", 1, "air")
	form.To = "north"
	refused := func(what string, a, b []api.Event, want api.Errno) {
		t.Helper()
		l, e := lot.Merge(fleet(), a, b)
		same(t, what, l, nil)
		is(t, what, e, want)
	}
	refused("the first one first", []api.Event{kind}, []api.Event{form}, api.ErrKind)
	refused("then the second one", []api.Event{form}, []api.Event{kind}, api.ErrForm)
	refused("the second one alone", good, []api.Event{form}, api.ErrForm)
	refused("second before conflict", good, []api.Event{leave(5, "v1", "air", "south"), kind}, api.ErrKind)
	refused("another To", good, []api.Event{leave(5, "v1", "air", "south")}, api.ErrConflict)
	refused("another kind", good, []api.Event{event(9, "v1", api.EventBack, "north")}, api.ErrConflict)
	refused("another station", good, []api.Event{event(9, "v1", api.EventCome, "south")}, api.ErrConflict)
	checksFirst(t, "Merge", func(f api.Fleet, l []api.Event) api.Errno { _, e := lot.Merge(f, l, good); return e })
	checksFirst(t, "Merge", func(f api.Fleet, l []api.Event) api.Errno { _, e := lot.Merge(f, good, l); return e })

	f := fleet()
	half := longLog(f, api.MaxEvents)
	other := []api.Event{event(0, "v2", api.EventEnter, "air")}
	refused("too many", half, other, api.ErrLarge)
	l, e := lot.Merge(f, half[1:], other)
	is(t, "MaxEvents", len(l), api.MaxEvents)
	is(t, "MaxEvents", e, api.OK)
	l, e = lot.Merge(f, half, half)
	is(t, "equal ones count once", len(l), api.MaxEvents)
	is(t, "equal ones count once", e, api.OK)
	last := event(half[len(half)-1].At, "v1", api.EventBack, "air")
	refused("conflict before large", half, append(other, last), api.ErrConflict)
}

// P1.4, P1.5: merged in any order, logs lead to the same.
func TestMergeInAnyOrder(t *testing.T) {
	r := rand.New(rand.NewSource(4))
	f := fleet()
	for range 100 {
		whole := logOf(r, f, 1+r.Intn(60), 100)
		var parts [3][]api.Event
		for _, v := range whole {
			n := r.Intn(3)
			parts[n] = append(parts[n], v)
			if r.Intn(4) == 0 { // two of them know of it
				parts[(n+1)%3] = append(parts[(n+1)%3], v)
			}
		}
		for _, order := range [][3]int{{0, 1, 2}, {0, 2, 1}, {1, 0, 2}, {1, 2, 0}, {2, 0, 1}, {2, 1, 0}} {
			l, _ := lot.Merge(f, parts[order[0]], parts[order[1]])
			left, e := lot.Merge(f, l, parts[order[2]])
			is(t, "Merge", e, api.OK)
			same(t, "one by one", left, whole)
			l, _ = lot.Merge(f, parts[order[1]], parts[order[2]])
			right, _ := lot.Merge(f, parts[order[0]], l)
			same(t, "the others first", right, whole)
		}
	}
}

// P1.4: a conflict is found wherever it is.
func TestConflictsAtRandom(t *testing.T) {
	r := rand.New(rand.NewSource(5))
	f := fleet()
	for range 200 {
		a, b := logOf(r, f, r.Intn(20), 20), logOf(r, f, r.Intn(20), 20)
		conflict := slices.ContainsFunc(a, func(v api.Event) bool {
			return slices.ContainsFunc(b, func(w api.Event) bool { return compare(v, w) == 0 && v != w })
		})
		l, e := lot.Merge(f, a, b)
		is(t, "conflict", e == api.ErrConflict, conflict)
		if !conflict {
			same(t, "merged", l, inOrder(append(slices.Clone(a), b...)))
		}
	}
}
