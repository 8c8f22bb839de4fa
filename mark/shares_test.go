package mark_test

import (
	"fmt"
	"math/rand"
	"slices"
	"testing"

	"forecourt/api"
	"forecourt/hire"
	"forecourt/mark"
)

// P5.5
func TestSplit(t *testing.T) {
	cases := []struct {
		cents   int
		weights []int
		want    []int
		e       api.Errno
	}{
		{100, []int{1, 1, 1}, []int{34, 33, 33}, api.OK},
		{101, []int{1, 1, 1}, []int{34, 34, 33}, api.OK},
		{100, []int{1}, []int{100}, api.OK},
		{0, []int{5, 6}, []int{0, 0}, api.OK},
		{1, []int{5, 6}, []int{0, 1}, api.OK},
		{1, []int{5, 5}, []int{1, 0}, api.OK},
		{5, []int{0, 1, 0, 1}, []int{0, 3, 0, 2}, api.OK},
		{10, []int{0, 7, 0}, []int{0, 10, 0}, api.OK},
		// Remainders 6, 5 and 3 of 7, and 2 are left.
		{10, []int{2, 4, 1}, []int{3, 6, 1}, api.OK},
		// Remainders 6, 6, 9 and 9 of 10, and 3 are left.
		{3, []int{2, 2, 3, 3}, []int{1, 0, 1, 1}, api.OK},
		{api.MaxCents, []int{api.End, api.End}, []int{api.MaxCents / 2, api.MaxCents / 2}, api.OK},
		{-1, []int{1}, nil, api.ErrArg},
		{api.MaxCents + 1, []int{1}, nil, api.ErrArg},
		{least, []int{1}, nil, api.ErrArg},
		{greatest, []int{1}, nil, api.ErrArg},
		{-1, make([]int, api.MaxShares+1), nil, api.ErrArg},
		{5, make([]int, api.MaxShares+1), nil, api.ErrLarge},
		{5, many(api.MaxShares+1, func(int) int { return -1 }), nil, api.ErrLarge},
		{5, many(api.MaxShares, func(i int) int { return i / 49 }), many(api.MaxShares, func(i int) int { return i / 49 * 5 }), api.OK},
		{5, []int{1, -1}, nil, api.ErrArg},
		{5, []int{1, api.End + 1}, nil, api.ErrArg},
		{5, []int{least, greatest}, nil, api.ErrArg},
		{5, []int{0, 0, -1}, nil, api.ErrArg},
		{5, []int{0, 0}, nil, api.ErrNone},
		{5, nil, nil, api.ErrNone},
		{0, nil, nil, api.ErrNone},
	}
	for _, c := range cases {
		what := fmt.Sprint(c.cents, c.weights)
		l, e := mark.Split(c.cents, c.weights)
		same(t, what, l, c.want)
		is(t, what, e, c.e)
	}
}

// split gives what is left out one by one, to the greatest remainder that has had none.
func split(cents int, weights []int) []int {
	sum, left := 0, cents
	for _, w := range weights {
		sum += w
	}
	var parts, rests []int
	for _, w := range weights {
		parts = append(parts, cents*w/sum)
		rests = append(rests, cents*w%sum)
		left -= cents * w / sum
	}
	for range left {
		i := slices.Index(rests, slices.Max(rests))
		parts[i]++
		rests[i] = -1
	}
	return parts
}

// P5.5
func TestSplitAtRandom(t *testing.T) {
	r := rand.New(rand.NewSource(24))
	for range 5000 {
		most := []int{3, 20, api.End}[r.Intn(3)]
		weights := many(1+r.Intn(api.MaxShares), func(int) int { return r.Intn(most + 1) })
		weights[0]++
		weights[0] = min(weights[0], api.End)
		cents := r.Intn([]int{10, 1000, api.MaxCents + 1}[r.Intn(3)])
		l, e := mark.Split(cents, weights)
		same(t, "split", l, split(cents, weights))
		is(t, "split", e, api.OK)
		sum := 0
		for _, n := range l {
			sum += n
		}
		is(t, "sum", sum, cents)
	}
}

func reading(at int) api.Reading { return api.Reading{At: at, Station: "s1"} }

// had is a hire that has vehicles one after the other, from the first moment to the second one, to the third one ..; it is open if the last moment is -1.
func had(key string, moments []int, vehicles ...string) api.Hire {
	h := api.Hire{Key: key, Driver: "ann", Time: api.Window{From: moments[0], To: moments[0] + 1}}
	for i, v := range vehicles {
		leg := api.Leg{Vehicle: v, Out: reading(moments[i]), In: reading(moments[i+1])}
		if moments[i+1] == -1 {
			leg.In = api.Reading{At: -1}
		}
		h.Legs = append(h.Legs, leg)
	}
	return h
}

func from(moments ...int) []int { return moments }

func share(hire string, cents int) api.Share { return api.Share{Hire: hire, Cents: cents} }

// blamed are hires that have v1 between 50 and 130, and between 150 and 400.
func blamed() []api.Hire {
	return []api.Hire{had("h1", from(50, 130), "v1"), had("h2", from(150, 400), "v1"), had("h3", from(0, 1000), "v2")}
}

// badHires have an error that no other argument of these tests leads to.
func badHires() []api.Hire { return []api.Hire{had("h1", from(5, 5), "v1")} }

const badHiresError = api.ErrOrder

// P5.5
func TestBlame(t *testing.T) {
	w := func(from, to int) api.Window { return api.Window{From: from, To: to} }
	cases := []struct {
		what  string
		w     api.Window
		l     []api.Hire
		cents int
		want  []api.Share
		e     api.Errno
	}{
		{"hires and the office", w(100, 200), blamed(), 1000, []api.Share{share("", 200), share("h1", 300), share("h2", 500)}, api.OK},
		{"no moment of the office", w(50, 130), blamed(), 1000, []api.Share{share("h1", 1000)}, api.OK},
		{"no moment of a hire", w(130, 150), blamed(), 1000, []api.Share{share("", 1000)}, api.OK},
		{"the last moment of a hire", w(129, 150), blamed(), 21, []api.Share{share("", 20), share("h1", 1)}, api.OK},
		{"the first moment of a hire", w(130, 151), blamed(), 21, []api.Share{share("", 20), share("h2", 1)}, api.OK},
		{"no hires", w(0, 10), nil, 7, []api.Share{share("", 7)}, api.OK},
		{"no moment", w(100, 100), blamed(), 7, []api.Share{share("", 7)}, api.OK},
		{"no moment at the end", w(api.End, api.End), blamed(), 7, []api.Share{share("", 7)}, api.OK},
		{"no cents", w(100, 200), blamed(), 0, []api.Share{share("", 0), share("h1", 0), share("h2", 0)}, api.OK},
		{"what is left", w(49, 51), blamed(), 1, []api.Share{share("", 1), share("h1", 0)}, api.OK},
		{"all the time", w(0, api.End), []api.Hire{had("h1", from(0, -1), "v1")}, api.MaxCents, []api.Share{share("h1", api.MaxCents)}, api.OK},
		{"open until End", w(api.End-10, api.End), []api.Hire{had("h1", from(api.End-5, -1), "v1")}, 10, []api.Share{share("", 5), share("h1", 5)}, api.OK},
		{"several legs", w(0, 100), []api.Hire{had("h1", from(0, 10, 20, 50), "v1", "v2", "v1")}, 100, []api.Share{share("", 60), share("h1", 40)}, api.OK},
		{"another hire between legs", w(0, 50), []api.Hire{had("h1", from(0, 10, 20, 50), "v1", "v2", "v1"), had("h2", from(10, 20), "v1")}, 50, []api.Share{share("h1", 40), share("h2", 10)}, api.OK},
		{"by hire, and not by time", w(0, 20), []api.Hire{had("h1", from(10, 20), "v1"), had("h2", from(0, 10), "v1")}, 9, []api.Share{share("h1", 5), share("h2", 4)}, api.OK},
		{"one behind the other", w(0, 20), []api.Hire{had("h1", from(0, 10), "v1"), had("h2", from(10, 20), "v1")}, 9, []api.Share{share("h1", 5), share("h2", 4)}, api.OK},
		{"two at one moment", w(0, 20), []api.Hire{had("h1", from(0, 11), "v1"), had("h2", from(10, 20), "v1")}, 9, nil, api.ErrConflict},
		{"two at one moment, the later one first", w(0, 20), []api.Hire{had("h1", from(10, 20), "v1"), had("h2", from(0, 11), "v1")}, 9, nil, api.ErrConflict},
		{"two at the same moments", w(0, 20), []api.Hire{had("h1", from(5, 9), "v1"), had("h2", from(5, 9), "v1")}, 9, nil, api.ErrConflict},
		{"one within the other one", w(0, 20), []api.Hire{had("h1", from(0, 20), "v1"), had("h2", from(5, 6), "v1")}, 9, nil, api.ErrConflict},
		{"a later leg", w(0, 90), []api.Hire{had("h1", from(0, 10, 20, 50), "v1", "v2", "v1"), had("h2", from(49, 60), "v1")}, 9, nil, api.ErrConflict},
		{"two at the last moment of the window", w(0, 20), []api.Hire{had("h1", from(0, 50), "v1"), had("h2", from(19, 20), "v1")}, 9, nil, api.ErrConflict},
		{"two behind the window", w(0, 20), []api.Hire{had("h1", from(0, 50), "v1"), had("h2", from(20, 30), "v1")}, 9, []api.Share{share("h1", 9)}, api.OK},
		{"two at the first moment of the window", w(10, 20), []api.Hire{had("h1", from(0, 20), "v1"), had("h2", from(5, 11), "v1")}, 9, nil, api.ErrConflict},
		{"two before the window", w(10, 20), []api.Hire{had("h1", from(0, 20), "v1"), had("h2", from(5, 10), "v1")}, 9, []api.Share{share("h1", 9)}, api.OK},
		{"two where no moment is", w(10, 10), []api.Hire{had("h1", from(0, 20), "v1"), had("h2", from(0, 20), "v1")}, 9, []api.Share{share("", 9)}, api.OK},
		{"two with another vehicle", w(0, 20), []api.Hire{had("h1", from(0, 20), "v2"), had("h2", from(0, 20), "v2")}, 9, []api.Share{share("", 9)}, api.OK},
		{"from -1", w(-1, 5), badHires(), -1, nil, api.ErrArg},
		{"to its from, less 1", w(6, 5), badHires(), -1, nil, api.ErrArg},
		{"behind End", w(5, api.End+1), badHires(), -1, nil, api.ErrArg},
		{"any window", w(least, greatest), badHires(), -1, nil, api.ErrArg},
		{"hires", w(0, 9), badHires(), -1, nil, badHiresError},
		{"conflict before cents", w(0, 20), []api.Hire{had("h1", from(0, 20), "v1"), had("h2", from(0, 20), "v1")}, -1, nil, api.ErrConflict},
		{"cents below", w(0, 20), blamed(), -1, nil, api.ErrArg},
		{"cents above", w(0, 20), blamed(), api.MaxCents + 1, nil, api.ErrArg},
		{"cents where no moment is", w(9, 9), blamed(), greatest, nil, api.ErrArg},
	}
	for _, c := range cases {
		l, e := mark.Blame("v1", c.w, c.l, c.cents)
		same(t, c.what, l, c.want)
		is(t, c.what, e, c.e)
	}
	for _, vehicle := range []string{"", "V1", longerKey} {
		l, e := mark.Blame(vehicle, w(-1, 0), badHires(), -1)
		same(t, vehicle, l, nil)
		is(t, vehicle, e, api.ErrName)
	}
	l, e := mark.Blame("v9", w(0, 9), blamed(), 5)
	same(t, "a vehicle that nobody has", l, []api.Share{share("", 5)})
	is(t, "a vehicle that nobody has", e, api.OK)
}

// inTurn are hires that have a vehicle for a minute each, one behind the other.
func inTurn(count int) []api.Hire {
	return many(count, func(i int) api.Hire { return had(key(i), from(i, i+1), "v1") })
}

// P5.5: MaxShares, with and without one of the office.
func TestBlameMost(t *testing.T) {
	cases := []struct {
		what   string
		w      api.Window
		hires  int
		shares int
		e      api.Errno
	}{
		{"most", api.Window{To: api.MaxShares}, api.MaxShares, api.MaxShares, api.OK},
		{"most, with the office", api.Window{To: api.MaxShares}, api.MaxShares - 1, api.MaxShares, api.OK},
		{"more", api.Window{To: api.MaxShares + 1}, api.MaxShares + 1, 0, api.ErrLarge},
		{"more, with the office", api.Window{To: api.MaxShares + 1}, api.MaxShares, 0, api.ErrLarge},
		{"more hires, of which some are without weight", api.Window{From: 100, To: 100 + api.MaxShares}, api.MaxHires, api.MaxShares, api.OK},
		{"more hires, without a moment", api.Window{From: 100, To: 100}, api.MaxHires, 1, api.OK},
	}
	for _, c := range cases {
		l, e := mark.Blame("v1", c.w, inTurn(c.hires), 1000)
		is(t, c.what, len(l), c.shares)
		is(t, c.what, e, c.e)
	}
	_, e := mark.Blame("v1", api.Window{To: api.MaxShares + 1}, inTurn(api.MaxShares+1), -1)
	is(t, "large before cents", e, api.ErrLarge)
	_, e = mark.Blame("v1", api.Window{To: 90}, append(inTurn(90), had("x", from(89, -1), "v1")), -1)
	is(t, "conflict before large", e, api.ErrConflict)
}

// P5.5: Blame, against who has the vehicle at each moment.
func TestBlameAtRandom(t *testing.T) {
	r := rand.New(rand.NewSource(25))
	errors := map[api.Errno]int{}
	for range 3000 {
		l := many(1+r.Intn(4), func(i int) api.Hire {
			moments := []int{r.Intn(50)}
			var vehicles []string
			for j := range 1 + r.Intn(3) {
				moments = append(moments, moments[j]+1+r.Intn(8))
				vehicles = append(vehicles, []string{"v1", "v2"}[(i+j)%2])
			}
			if r.Intn(6) == 0 {
				moments[len(moments)-1] = -1
			}
			return had(key(i), moments, vehicles...)
		})
		w := api.Window{From: r.Intn(60)}
		w.To = w.From + r.Intn(20)
		cents := r.Intn(100)
		got, e := mark.Blame("v1", w, l, cents)
		want, conflict := blame(w, l, cents)
		if conflict {
			is(t, "conflict", e, api.ErrConflict)
			want = nil
		} else {
			is(t, "blame", e, api.OK)
		}
		same(t, "blame", got, want)
		errors[e]++
	}
	if errors[api.OK] < 500 || errors[api.ErrConflict] < 100 {
		t.Errorf("too few of some error: %v", errors)
	}
}

// blame goes through the moments of a window; it says whether two hires have v1 at one of them.
func blame(w api.Window, l []api.Hire, cents int) ([]api.Share, bool) {
	minutes := map[string]int{}
	for at := w.From; at < w.To; at++ {
		key, _, _ := hire.With(l, "v1", at)
		minutes[key]++
		for i := range l {
			if other, has, _ := hire.With(l[i:i+1], "v1", at); has && other != key {
				return nil, true
			}
		}
	}
	if w.From == w.To {
		return []api.Share{share("", cents)}, false
	}
	var keys []string
	var weights []int
	for _, key := range append([]string{""}, "k00000", "k00001", "k00002", "k00003") {
		if minutes[key] > 0 {
			keys, weights = append(keys, key), append(weights, minutes[key])
		}
	}
	var shares []api.Share
	for i, n := range split(cents, weights) {
		shares = append(shares, share(keys[i], n))
	}
	return shares, false
}

func waiver(hire string, excess int) api.Waiver { return api.Waiver{Hire: hire, Excess: excess} }

// P5.5
func TestExcess(t *testing.T) {
	shares := []api.Share{share("", 200), share("h1", 300), share("h2", 500)}
	cases := []struct {
		what    string
		l       []api.Share
		waivers []api.Waiver
		want    []api.Share
		left    int
	}{
		{"none", nil, nil, nil, 0},
		{"no waivers", shares, nil, []api.Share{share("h1", 300), share("h2", 500)}, 200},
		{"one of two", shares, []api.Waiver{waiver("h2", 100)}, []api.Share{share("h1", 300), share("h2", 100)}, 600},
		{"two", shares, []api.Waiver{waiver("h1", 299), waiver("h2", 499)}, []api.Share{share("h1", 299), share("h2", 499)}, 202},
		{"as much as the share", shares, []api.Waiver{waiver("h1", 300)}, []api.Share{share("h1", 300), share("h2", 500)}, 200},
		{"more than the share", shares, []api.Waiver{waiver("h1", api.MaxCents)}, []api.Share{share("h1", 300), share("h2", 500)}, 200},
		{"no excess", shares, []api.Waiver{waiver("h1", 0), waiver("h2", 0)}, []api.Share{share("h1", 0), share("h2", 0)}, 1000},
		{"of other hires", shares, []api.Waiver{waiver("a", 0), waiver("h11", 0), waiver("z", 0)}, []api.Share{share("h1", 300), share("h2", 500)}, 200},
		{"shares of 0", []api.Share{share("h1", 0), share("h2", 0)}, []api.Waiver{waiver("h2", 5)}, []api.Share{share("h1", 0), share("h2", 0)}, 0},
		{"the office alone", []api.Share{share("", 5)}, []api.Waiver{waiver("h2", 5)}, nil, 5},
		{"without the office", []api.Share{share("h1", 5)}, []api.Waiver{waiver("h1", 2)}, []api.Share{share("h1", 2)}, 3},
	}
	for _, c := range cases {
		l, left, e := mark.Excess(c.l, c.waivers)
		same(t, c.what, l, c.want)
		is(t, c.what, left, c.left)
		is(t, c.what, e, api.OK)
	}
	l, left, e := mark.Excess(many(api.MaxShares, func(i int) api.Share { return share(key(i), api.MaxCents) }), many(api.MaxHires, func(i int) api.Waiver { return waiver(key(i), 1) }))
	same(t, "most", l, many(api.MaxShares, func(i int) api.Share { return share(key(i), 1) }))
	is(t, "most", left, api.MaxShares*(api.MaxCents-1))
	is(t, "most", e, api.OK)
}

// P5.5
func TestExcessErrors(t *testing.T) {
	call := func(l []api.Share, waivers []api.Waiver) api.Errno {
		shares, left, e := mark.Excess(l, waivers)
		is(t, "none", e != api.OK && (len(shares) != 0 || left != 0), false)
		return e
	}
	runChecks(t, func(l []api.Share) api.Errno { return call(l, nil) }, []check[api.Share]{
		{"MaxShares", many(api.MaxShares, func(i int) api.Share { return share(key(i), 0) }), api.OK},
		{"more", make([]api.Share, api.MaxShares+1), api.ErrLarge},
		{"the office and a hire", []api.Share{share("", 0), share(longKey, 0)}, api.OK},
		{"no key", []api.Share{share("A", 0)}, api.ErrName},
		{"longer key", []api.Share{share(longerKey, 0)}, api.ErrName},
		{"name before order", []api.Share{share("b", 0), share("A", 0)}, api.ErrName},
		{"the office twice", []api.Share{share("", 0), share("", 0)}, api.ErrOrder},
		{"the office last", []api.Share{share("a", 0), share("", 0)}, api.ErrOrder},
		{"a hire twice", []api.Share{share("a", 0), share("a", 0)}, api.ErrOrder},
		{"a lesser hire", []api.Share{share("b", 0), share("a", 0)}, api.ErrOrder},
		{"order before cents", []api.Share{share("b", 0), share("a", -1)}, api.ErrOrder},
		{"cents before the next one", []api.Share{share("b", -1), share("a", 0)}, api.ErrArg},
		{"cents of the office", []api.Share{share("", -1)}, api.ErrArg},
		{"most cents", []api.Share{share("a", api.MaxCents)}, api.OK},
		{"more cents", []api.Share{share("a", api.MaxCents+1)}, api.ErrArg},
		{"least int", []api.Share{share("a", least)}, api.ErrArg},
		{"greatest int", []api.Share{share("a", greatest)}, api.ErrArg},
	})
	runChecks(t, func(l []api.Waiver) api.Errno { return call(nil, l) }, []check[api.Waiver]{
		{"MaxHires", many(api.MaxHires, func(i int) api.Waiver { return waiver(key(i), 0) }), api.OK},
		{"more", make([]api.Waiver, api.MaxHires+1), api.ErrLarge},
		{"the office", []api.Waiver{waiver("", 0)}, api.ErrName},
		{"no key", []api.Waiver{waiver("A", 0)}, api.ErrName},
		{"name before order", []api.Waiver{waiver("b", 0), waiver("", 0)}, api.ErrName},
		{"a hire twice", []api.Waiver{waiver("a", 0), waiver("a", 1)}, api.ErrOrder},
		{"a lesser hire", []api.Waiver{waiver("b", 0), waiver("a", 0)}, api.ErrOrder},
		{"order before excess", []api.Waiver{waiver("b", 0), waiver("a", -1)}, api.ErrOrder},
		{"excess before the next one", []api.Waiver{waiver("b", -1), waiver("a", 0)}, api.ErrArg},
		{"most", []api.Waiver{waiver("a", api.MaxCents)}, api.OK},
		{"more cents", []api.Waiver{waiver("a", api.MaxCents+1)}, api.ErrArg},
		{"least int", []api.Waiver{waiver("a", least)}, api.ErrArg},
	})
	is(t, "shares before waivers", call([]api.Share{share("a", -1)}, []api.Waiver{waiver("A", 0)}), api.ErrArg)
	is(t, "large waivers behind shares", call([]api.Share{share("A", 0)}, make([]api.Waiver, api.MaxHires+1)), api.ErrName)
}

// P5.5: what Blame returns Excess takes, and nothing is lost.
func TestExcessOfBlame(t *testing.T) {
	r := rand.New(rand.NewSource(26))
	for range 500 {
		cents := r.Intn(10_000)
		at := r.Intn(40)
		shares, e := mark.Blame("v1", api.Window{From: at, To: at + r.Intn(100)}, inTurn(30+r.Intn(19)), cents)
		is(t, "blame", e, api.OK)
		var waivers []api.Waiver
		for i := range 60 {
			if r.Intn(2) == 0 {
				waivers = append(waivers, waiver(key(i), r.Intn(200)))
			}
		}
		paid, left, e := mark.Excess(shares, waivers)
		is(t, "excess", e, api.OK)
		sum := left
		for _, s := range paid {
			sum += s.Cents
			is(t, "a hire", s.Hire != "", true)
		}
		is(t, "sum", sum, cents)
	}
}
