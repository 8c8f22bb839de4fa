package hire_test

import (
	"fmt"
	"math/rand"
	"testing"

	"forecourt/api"
	"forecourt/hire"
)

// hires are some that are right; b has the driver of a, and c has two vehicles one after the other.
func hires() []api.Hire {
	c := one("c", "eve", "v2", 10, 60, 50)
	c.Legs = append(c.Legs, api.Leg{Vehicle: "v1", Out: reading(50, "s1", 0, 0), In: out})
	return []api.Hire{one("a", "ann", "v1", 0, 30, 40), one("b", "ann", "v3", 20, 30, -1), c}
}

// badHires are wrong; no other argument of the tests leads to this error.
func badHires() []api.Hire { return []api.Hire{badHire()} }

// P4.3
func TestCheckAll(t *testing.T) {
	numbered := func(i int) api.Hire { return one(key(i), "ann", "v1", 0, 30, -1) }
	wrong := one("a", "ann", "v1", 0, 30, 0)
	cases := []struct {
		what string
		l    []api.Hire
		want api.Errno
	}{
		{"none", nil, api.OK},
		{"some", hires(), api.OK},
		{"MaxHires", many(api.MaxHires, numbered), api.OK},
		{"more", many(api.MaxHires+1, numbered), api.ErrLarge},
		{"more before wrong ones", make([]api.Hire, api.MaxHires+1), api.ErrLarge},
		{"wrong", badHires(), badHireError},
		{"no hire", make([]api.Hire, 1), api.ErrName},
		{"twice", []api.Hire{numbered(1), numbered(1)}, api.ErrOrder},
		{"lesser", []api.Hire{numbered(2), numbered(1)}, api.ErrOrder},
		{"lesser than the one before", []api.Hire{numbered(1), numbered(3), numbered(2)}, api.ErrOrder},
		{"wrong before its order", []api.Hire{numbered(1), {Key: "a"}}, api.ErrName},
		{"order before the next one", []api.Hire{numbered(1), numbered(1), badHire()}, api.ErrOrder},
		{"the first one that is wrong", []api.Hire{badHire(), numbered(1), numbered(1)}, badHireError},
		{"wrong last", []api.Hire{wrong}, api.ErrOrder},
	}
	for _, c := range cases {
		is(t, c.what, hire.CheckAll(c.l), c.want)
	}
}

func clash(a, b string, kind, at int) api.Clash { return api.Clash{A: a, B: b, Kind: kind, At: at} }

// P4.3
func TestClashes(t *testing.T) {
	const vehicle, driver = api.ClashVehicle, api.ClashDriver
	swapped := func(key, driver string, from, at, back int, first, second string) api.Hire {
		h := one(key, driver, first, from, from+5, at)
		h.Legs = append(h.Legs, api.Leg{Vehicle: second, Out: reading(at, "s1", 0, 0), In: reading(back, "s1", 0, 0)})
		return h
	}
	cases := []struct {
		what string
		l    []api.Hire
		want []api.Clash
	}{
		{"none", nil, nil},
		{"one", hires()[:1], nil},
		{"a driver", hires(), []api.Clash{clash("a", "b", driver, 20)}},
		{"both", []api.Hire{one("a", "ann", "v1", 0, 9, 9), one("b", "ann", "v1", 5, 9, -1)}, []api.Clash{clash("a", "b", vehicle, 5), clash("a", "b", driver, 5)}},
		{"one begins when the other one ends", []api.Hire{one("a", "ann", "v1", 0, 9, 9), one("b", "ann", "v1", 9, 12, -1)}, nil},
		{"likewise, by key", []api.Hire{one("a", "ann", "v1", 9, 12, -1), one("b", "ann", "v1", 0, 9, 9)}, nil},
		{"the last minute", []api.Hire{one("a", "ann", "v1", 8, 12, -1), one("b", "eve", "v1", 0, 9, 9)}, []api.Clash{clash("a", "b", vehicle, 8)}},
		{"what was agreed does not count", []api.Hire{one("a", "ann", "v1", 0, 90, 9), one("b", "eve", "v1", 9, 12, 20)}, nil},
		{"late", []api.Hire{one("a", "ann", "v1", 0, 5, 10), one("b", "eve", "v1", 9, 12, 20)}, []api.Clash{clash("a", "b", vehicle, 9)}},
		{"open until End", []api.Hire{one("a", "ann", "v1", 0, 5, -1), one("b", "eve", "v1", api.End-2, api.End-1, -1)}, []api.Clash{clash("a", "b", vehicle, api.End-2)}},
		{"one within the other one", []api.Hire{one("a", "ann", "v1", 5, 6, 6), one("b", "ann", "v2", 0, 9, 9)}, []api.Clash{clash("a", "b", driver, 5)}},
		{"a vehicle that is exchanged", []api.Hire{swapped("a", "ann", 0, 10, 20, "v1", "v2"), one("b", "eve", "v1", 10, 30, 30)}, nil},
		{"the vehicle behind it", []api.Hire{swapped("a", "ann", 0, 10, 20, "v1", "v2"), one("b", "eve", "v2", 5, 30, 30)}, []api.Clash{clash("a", "b", vehicle, 10)}},
		{"both exchange at one moment", []api.Hire{swapped("a", "ann", 0, 10, 20, "v1", "v2"), swapped("b", "eve", 0, 10, 20, "v2", "v1")}, nil},
		{"the driver before the vehicle", []api.Hire{swapped("a", "ann", 0, 10, 20, "v1", "v2"), one("b", "ann", "v2", 5, 30, 30)}, []api.Clash{clash("a", "b", vehicle, 10), clash("a", "b", driver, 5)}},
		{"by the first key, then the second one", []api.Hire{one("a", "ann", "v1", 7, 9, -1), one("b", "bob", "v1", 8, 9, -1), one("c", "ann", "v1", 6, 9, -1)},
			[]api.Clash{clash("a", "b", vehicle, 8), clash("a", "c", vehicle, 7), clash("a", "c", driver, 7), clash("b", "c", vehicle, 8)}},
	}
	for _, c := range cases {
		l, e := hire.Clashes(c.l)
		same(t, c.what, l, c.want)
		is(t, c.what, e, api.OK)
	}
	l, e := hire.Clashes(badHires())
	same(t, "wrong", l, nil)
	is(t, "wrong", e, badHireError)
}

// P4.3: the most hires with the most legs, of which each two exclude each other.
func TestClashesMost(t *testing.T) {
	l := many(api.MaxHires, func(i int) api.Hire {
		h := longHire(api.MaxLegs)
		h.Key = key(i)
		return h
	})
	got, e := hire.Clashes(l)
	is(t, "most", e, api.OK)
	is(t, "most", len(got), api.MaxHires*(api.MaxHires-1))
	is(t, "first", got[0], clash(key(0), key(1), api.ClashVehicle, 0))
	is(t, "last", got[len(got)-1], clash(key(api.MaxHires-2), key(api.MaxHires-1), api.ClashDriver, 0))
}

// P4.3
func TestWith(t *testing.T) {
	cases := []struct {
		what    string
		vehicle string
		at      int
		want    string
	}{
		{"when it begins", "v1", 0, "a"},
		{"the last minute", "v1", 39, "a"},
		{"when it has ended", "v1", 40, ""},
		{"before another one", "v1", 49, ""},
		{"another one", "v1", 50, "c"},
		{"open", "v1", api.End - 1, "c"},
		{"before", "v3", 19, ""},
		{"from then on", "v3", 20, "b"},
		{"the first leg", "v2", 49, "c"},
		{"behind the first leg", "v2", 50, ""},
		{"an unknown one", "v9", 20, ""},
		{"the longest key", longKey, 20, ""},
	}
	for _, c := range cases {
		got, ok, e := hire.With(hires(), c.vehicle, c.at)
		is(t, c.what, got, c.want)
		is(t, c.what, ok, c.want != "")
		is(t, c.what, e, api.OK)
	}
	both := []api.Hire{one("a", "ann", "v1", 10, 30, -1), one("b", "eve", "v1", 0, 30, -1)}
	got, ok, e := hire.With(both, "v1", 20)
	is(t, "the least of two", got, "a")
	is(t, "the least of two", ok, true)
	is(t, "the least of two", e, api.OK)
	got, _, _ = hire.With(both, "v1", 5)
	is(t, "the only one", got, "b")
	_, ok, e = hire.With(nil, "v1", 5)
	is(t, "no hires", ok, false)
	is(t, "no hires", e, api.OK)
}

// P4.3
func TestWithErrors(t *testing.T) {
	cases := []struct {
		what    string
		l       []api.Hire
		vehicle string
		at      int
		want    api.Errno
	}{
		{"hires first", badHires(), "", -1, badHireError},
		{"no vehicle", hires(), "", -1, api.ErrName},
		{"no key", hires(), "V1", 5, api.ErrName},
		{"longer key", hires(), longerKey, 5, api.ErrName},
		{"below 0", hires(), "v1", -1, api.ErrArg},
		{"End", hires(), "v1", api.End, api.ErrArg},
		{"least", hires(), "v1", least, api.ErrArg},
		{"greatest", hires(), "v1", greatest, api.ErrArg},
	}
	for _, c := range cases {
		got, ok, e := hire.With(c.l, c.vehicle, c.at)
		is(t, c.what, got, "")
		is(t, c.what, ok, false)
		is(t, c.what, e, c.want)
	}
}

// P4.3
func TestOverdue(t *testing.T) {
	cases := []struct {
		what string
		at   int
		want []string
	}{
		{"none yet", 29, nil},
		{"one, and others have ended", 30, []string{"b"}},
		{"still one", 59, []string{"b"}},
		{"two", 60, []string{"b", "c"}},
		{"in the end", api.End - 1, []string{"b", "c"}},
		{"at first", 0, nil},
	}
	for _, c := range cases {
		got, e := hire.Overdue(hires(), c.at)
		same(t, c.what, got, c.want)
		is(t, c.what, e, api.OK)
	}
	later := []api.Hire{one("a", "ann", "v1", 0, 90, -1), one("b", "ann", "v1", 0, 10, -1)}
	got, _ := hire.Overdue(later, 90)
	same(t, "by key, not by time", got, []string{"a", "b"})
	for _, at := range []int{-1, api.End, least, greatest} {
		got, e := hire.Overdue(hires(), at)
		same(t, "no moment", got, nil)
		is(t, "no moment", e, api.ErrArg)
		_, e = hire.Overdue(badHires(), at)
		is(t, "hires first", e, badHireError)
	}
}

// lasting are the moments, of the first ones, at which a leg lasts.
func lasting(l api.Leg, at int) bool { return l.Out.At <= at && (l.In.At == -1 || at < l.In.At) }

// slowClashes looks at each moment, of the first ones, for legs of both hires that last then.
func slowClashes(l []api.Hire, moments int) []api.Clash {
	var clashes []api.Clash
	first := func(a, b api.Hire, kind int, alike func(x, y api.Leg) bool) {
		for at := range moments {
			for _, x := range a.Legs {
				for _, y := range b.Legs {
					if lasting(x, at) && lasting(y, at) && alike(x, y) {
						clashes = append(clashes, clash(a.Key, b.Key, kind, at))
						return
					}
				}
			}
		}
	}
	for i, a := range l {
		for _, b := range l[i+1:] {
			first(a, b, api.ClashVehicle, func(x, y api.Leg) bool { return x.Vehicle == y.Vehicle })
			first(a, b, api.ClashDriver, func(x, y api.Leg) bool { return a.Driver == b.Driver })
		}
	}
	return clashes
}

// P4.3
func TestSeveralAtRandom(t *testing.T) {
	r := rand.New(rand.NewSource(13))
	const minutes, moments = 30, 100
	for range 300 {
		l := someHires(r, r.Intn(6), minutes)
		mustCheck(t, l)
		got, e := hire.Clashes(l)
		same(t, fmt.Sprint(l), got, slowClashes(l, moments))
		is(t, "clashes", e, api.OK)
		for range 20 {
			vehicle, at := []string{"v1", "v2", "v3", "v4", "v5"}[r.Intn(5)], r.Intn(moments)
			want := ""
			for i := len(l) - 1; i >= 0; i-- {
				for _, leg := range l[i].Legs {
					if leg.Vehicle == vehicle && lasting(leg, at) {
						want = l[i].Key
					}
				}
			}
			key, ok, _ := hire.With(l, vehicle, at)
			is(t, fmt.Sprint(vehicle, at, l), key, want)
			is(t, fmt.Sprint(vehicle, at, l), ok, want != "")
		}
	}
}
