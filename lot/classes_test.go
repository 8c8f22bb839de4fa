package lot_test

import (
	"math/rand"
	"slices"
	"testing"

	"forecourt/api"
	"forecourt/lot"
)

// classes makes a ladder: each class leads to the next one.
func classes(count int) []api.Class {
	var l []api.Class
	for i, key := range keys("c", count) {
		l = append(l, api.Class{Key: key})
		if i > 0 {
			l[i-1].Up = key
		}
	}
	return l
}

// P1.2
func TestCheckClasses(t *testing.T) {
	cases := []struct {
		what string
		l    []api.Class
		want api.Errno
	}{
		{"none", nil, api.OK},
		{"ordinary", fleet().Classes, api.OK},
		{"MaxClasses", classes(api.MaxClasses), api.OK},
		{"more", classes(api.MaxClasses + 1), api.ErrLarge},
		{"large before name", append(make([]api.Class, 1), classes(api.MaxClasses)...), api.ErrLarge},
		{"no key", []api.Class{{}}, api.ErrName},
		{"capital", []api.Class{{Key: "A"}}, api.ErrName},
		{"same key", []api.Class{{Key: "a"}, {Key: "a"}}, api.ErrOrder},
		{"lesser key", []api.Class{{Key: "b"}, {Key: "a"}}, api.ErrOrder},
		{"name before order", []api.Class{{Key: "b"}, {Key: "A"}}, api.ErrName},
		{"order before the name of Up", []api.Class{{Key: "b"}, {Key: "a", Up: "A"}}, api.ErrOrder},
		{"name of Up", []api.Class{{Key: "a", Up: "A"}}, api.ErrName},
		{"name of Up before the next one", []api.Class{{Key: "b", Up: "-"}, {Key: "a"}}, api.ErrName},
		{"no Up", []api.Class{{Key: "a", Up: "b"}}, api.ErrNone},
		{"keys before no Up", []api.Class{{Key: "a", Up: "b"}, {Key: "B"}}, api.ErrName},
		{"order before no Up", []api.Class{{Key: "a", Up: "b"}, {Key: "a"}}, api.ErrOrder},
		{"itself", []api.Class{{Key: "a", Up: "a"}}, api.ErrLoop},
		{"two", []api.Class{{Key: "a", Up: "b"}, {Key: "b", Up: "a"}}, api.ErrLoop},
		{"a way into a loop", []api.Class{{Key: "a", Up: "b"}, {Key: "b", Up: "c"}, {Key: "c", Up: "b"}}, api.ErrLoop},
		{"no Up before loop", []api.Class{{Key: "a", Up: "a"}, {Key: "b", Up: "c"}}, api.ErrNone},
		{"two lead to one", []api.Class{{Key: "a", Up: "c"}, {Key: "b", Up: "c"}, {Key: "c"}}, api.OK},
	}
	loop := classes(api.MaxClasses)
	loop[api.MaxClasses-1].Up = loop[0].Key
	cases = append(cases, struct {
		what string
		l    []api.Class
		want api.Errno
	}{"the longest loop", loop, api.ErrLoop})
	for _, c := range cases {
		is(t, c.what, lot.CheckClasses(c.l), c.want)
	}
}

// P1.2
func TestAbove(t *testing.T) {
	l := fleet().Classes
	for key, want := range map[string][]string{"mini": {"midi", "maxi"}, "midi": {"maxi"}, "maxi": nil, "van": {"maxi"}, "bike": nil} {
		above, e := lot.Above(l, key)
		same(t, "above "+key, above, want)
		is(t, "above "+key, e, api.OK)
	}
	ladder := classes(api.MaxClasses)
	above, _ := lot.Above(ladder, ladder[0].Key)
	same(t, "the longest ladder", above, keys("c", api.MaxClasses)[1:])
	for _, key := range []string{"", "lorry", "Mini"} {
		above, e := lot.Above(l, key)
		same(t, "no such class", above, nil)
		is(t, "no such class", e, api.ErrNone)
	}
	above, e := lot.Above([]api.Class{{Key: "a", Up: "a"}}, "b")
	same(t, "classes first", above, nil)
	is(t, "classes first", e, api.ErrLoop)
}

// P1.2
func TestSteps(t *testing.T) {
	l := fleet().Classes
	cases := []struct {
		want, have string
		steps      int
		ok         bool
		e          api.Errno
	}{
		{"mini", "mini", 0, true, api.OK},
		{"mini", "midi", 1, true, api.OK},
		{"mini", "maxi", 2, true, api.OK},
		{"van", "maxi", 1, true, api.OK},
		{"midi", "mini", 0, false, api.OK},
		{"mini", "van", 0, false, api.OK},
		{"bike", "mini", 0, false, api.OK},
		{"bike", "bike", 0, true, api.OK},
		{"lorry", "mini", 0, false, api.ErrNone},
		{"mini", "lorry", 0, false, api.ErrNone},
		{"lorry", "lorry", 0, false, api.ErrNone},
		{"", "mini", 0, false, api.ErrNone},
		{"maxi", "", 0, false, api.ErrNone},
	}
	for _, c := range cases {
		steps, ok, e := lot.Steps(l, c.want, c.have)
		is(t, c.want+" to "+c.have, steps, c.steps)
		is(t, c.want+" to "+c.have, ok, c.ok)
		is(t, c.want+" to "+c.have, e, c.e)
	}
	steps, ok, e := lot.Steps([]api.Class{{Key: "B"}}, "a", "b")
	is(t, "classes first", steps, 0)
	is(t, "classes first", ok, false)
	is(t, "classes first", e, api.ErrName)
}

// P1.2: Steps and Above say the same, and CheckClasses finds just the loops.
func TestClassesAtRandom(t *testing.T) {
	r := rand.New(rand.NewSource(2))
	for range 300 {
		l := classes(1 + r.Intn(6))
		for i := range l {
			l[i].Up = ""
			if r.Intn(3) > 0 {
				l[i].Up = l[r.Intn(len(l))].Key
			}
		}
		loop := slices.ContainsFunc(l, func(c api.Class) bool { return endless(l, c) })
		is(t, "loop", lot.CheckClasses(l) == api.ErrLoop, loop)
		for _, a := range l {
			for _, b := range l {
				above, _ := lot.Above(l, a.Key)
				steps, ok, _ := lot.Steps(l, a.Key, b.Key)
				place := slices.Index(append([]string{a.Key}, above...), b.Key)
				is(t, "ok", ok, !loop && place >= 0)
				is(t, "steps", ok && steps != place, false)
			}
		}
	}
}

func endless(l []api.Class, c api.Class) bool {
	for range len(l) {
		i := slices.IndexFunc(l, func(d api.Class) bool { return d.Key == c.Up })
		if i < 0 {
			return false
		}
		c = l[i]
	}
	return true
}
