package book_test

import (
	"fmt"
	"math/big"
	"math/rand"
	"testing"

	"forecourt/api"
	"forecourt/book"
)

// likely is for bookings with so many percent each.
func likely(percents ...int) []api.Booking {
	var l []api.Booking
	for i, n := range percents {
		l = append(l, percent(booking(key(i), "mini", 1, 2), n))
	}
	return l
}

func fraction(num, den int) api.Fraction { return api.Fraction{Num: num, Den: den} }

// nines is 99, for as many bookings as odds are told of.
func nines() []api.Booking { return likely(99, 99, 99, 99, 99, 99, 99, 99, 99) }

// allCases is 100 to the power of MaxOdds.
const allCases = 1_000_000_000_000_000_000

// P3.4
func TestSpread(t *testing.T) {
	cases := []struct {
		what string
		l    []api.Booking
		want []api.Fraction
	}{
		{"nobody", nil, []api.Fraction{fraction(1, 1)}},
		{"one", likely(40), []api.Fraction{fraction(3, 5), fraction(2, 5)}},
		{"the example", likely(50, 50), []api.Fraction{fraction(1, 4), fraction(1, 2), fraction(1, 4)}},
		{"certain", likely(100, 100), []api.Fraction{fraction(0, 1), fraction(0, 1), fraction(1, 1)}},
		{"impossible", likely(0, 0), []api.Fraction{fraction(1, 1), fraction(0, 1), fraction(0, 1)}},
		{"each by itself", likely(1, 2), []api.Fraction{fraction(4851, 5000), fraction(37, 1250), fraction(1, 5000)}}, // 99*98, 98+2*99 and 2 of 10,000
	}
	for _, c := range cases {
		got, e := book.Spread(c.l)
		same(t, c.what, got, c.want)
		is(t, c.what, e, api.OK)
	}
	got, e := book.Spread(nines())
	is(t, "MaxOdds", len(got), api.MaxOdds+1)
	is(t, "MaxOdds: none", got[0], fraction(1, allCases))
	is(t, "MaxOdds: all", got[api.MaxOdds], fraction(99*99*99*99*99*99*99*99*99, allCases))
	is(t, "MaxOdds", e, api.OK)
}

// P3.4
func TestOver(t *testing.T) {
	cases := []struct {
		what  string
		l     []api.Booking
		units int
		want  api.Fraction
	}{
		{"nobody", nil, 0, fraction(0, 1)},
		{"the example", likely(50, 50), 1, fraction(1, 4)},
		{"no units", likely(50, 50), 0, fraction(3, 4)},
		{"as many units", likely(50, 50), 2, fraction(0, 1)},
		{"more units", likely(50, 50), api.MaxBookings, fraction(0, 1)},
		{"certain", likely(100, 100, 100), 2, fraction(1, 1)},
		{"impossible", likely(0, 0), 0, fraction(0, 1)},
		{"one comes for certain", likely(100, 30), 1, fraction(3, 10)},
		{"MaxOdds", nines(), 0, fraction(allCases-1, allCases)},
		{"MaxOdds, and all units", nines(), 9, fraction(0, 1)},
	}
	for _, c := range cases {
		got, e := book.Over(c.l, c.units)
		is(t, c.what, got, c.want)
		is(t, c.what, e, api.OK)
	}
}

// P3.4
func TestMost(t *testing.T) {
	fours := likely(50, 50, 50, 50)
	cases := []struct {
		what  string
		l     []api.Booking
		units int
		risk  api.Fraction
		want  int
	}{
		{"nobody", nil, 0, fraction(0, 1), 0},
		{"without risk", fours, 2, fraction(0, 1), 2},
		{"a risk that is just enough", fours, 2, fraction(1, 8), 3},
		{"not in lowest terms", fours, 2, fraction(125_000, 1_000_000), 3},
		{"a bit less", fours, 2, fraction(124_999, 1_000_000), 2},
		{"enough for all", fours, 2, fraction(5, 16), 4},
		{"not enough for all", fours, 2, fraction(312_499, 1_000_000), 3},
		{"any risk", fours, 0, fraction(1, 1), 4},
		{"no units", fours, 0, fraction(0, 1), 0},
		{"no units, and a risk", fours, 0, fraction(1, 2), 1},
		{"those who do not come", likely(0, 0, 100, 0, 1), 1, fraction(0, 7), 4},
		{"the first ones, in order", likely(100, 0, 0, 0), 0, fraction(99, 100), 0},
		{"MaxOdds", nines(), 0, fraction(999_999, 1_000_000), 3},
		{"MaxOdds, with more than 64 bits", nines(), 8, fraction(913_517, 1_000_000), 8},
		{"likewise, enough", nines(), 8, fraction(913_518, 1_000_000), 9},
		{"more than 64 bits, and the lower ones are in another order", nines(), 8, fraction(99, 100), 9},
		{"greatest", nines(), 0, fraction(1_000_000, 1_000_000), 9},
		{"MaxBookings units", nines(), api.MaxBookings, fraction(0, 1), 9},
	}
	for _, c := range cases {
		got, e := book.Most(c.l, c.units, c.risk)
		is(t, c.what, got, c.want)
		is(t, c.what, e, api.OK)
	}
}

// P3.4: each case has errors that come later, too.
func TestOddsErrors(t *testing.T) {
	ten := likely(make([]int, api.MaxOdds+1)...)
	two := likely(50, 50)
	cases := []struct {
		what  string
		l     []api.Booking
		units int
		risk  api.Fraction
		want  api.Errno
	}{
		{"units below", two, -1, fraction(0, 1), api.ErrArg},
		{"units above", two, api.MaxBookings + 1, fraction(0, 1), api.ErrArg},
		{"greatest units", two, greatest, fraction(0, 1), api.ErrArg},
		{"least units", two, least, fraction(0, 1), api.ErrArg},
		{"Den 0", two, 1, fraction(0, 0), api.ErrArg},
		{"Den below 0", two, 1, fraction(-1, -1), api.ErrArg},
		{"Den above", two, 1, fraction(1, 1_000_001), api.ErrArg},
		{"greatest Den", two, 1, fraction(1, greatest), api.ErrArg},
		{"Num below 0", two, 1, fraction(-1, 5), api.ErrArg},
		{"Num above Den", two, 1, fraction(6, 5), api.ErrArg},
		{"greatest Num", two, 1, fraction(greatest, 5), api.ErrArg},
	}
	for _, c := range formCases() {
		if c.want == api.OK && len(c.l) <= api.MaxOdds {
			continue
		}
		want := c.want
		if want == api.OK {
			want = api.ErrLarge
		}
		spread, e := book.Spread(c.l)
		same(t, c.what, spread, nil)
		is(t, c.what, e, want)
		over, e := book.Over(c.l, -1)
		is(t, c.what, over, api.Fraction{})
		is(t, c.what, e, want)
		most, e := book.Most(c.l, -1, api.Fraction{})
		is(t, c.what, most, 0)
		is(t, c.what, e, want)
	}
	for _, c := range cases {
		most, e := book.Most(c.l, c.units, c.risk)
		is(t, c.what, most, 0)
		is(t, c.what, e, c.want)
		over, e := book.Over(c.l, c.units)
		unitsWrong := c.units < 0 || c.units > api.MaxBookings
		is(t, c.what+": Over", e == api.ErrArg, unitsWrong)
		is(t, c.what+": Over", over == api.Fraction{}, unitsWrong)
	}
	spread, e := book.Spread(ten)
	same(t, "ten", spread, nil)
	is(t, "ten", e, api.ErrLarge)
	_, e = book.Over(ten, -1)
	is(t, "ten: Over", e, api.ErrLarge)
	_, e = book.Most(ten, 1, fraction(1, 0))
	is(t, "ten: Most", e, api.ErrLarge)
}

// P3.4: all who come, and all who do not, gone through; the odds add up to 1, and are in lowest terms.
func TestOddsAtRandom(t *testing.T) {
	r := rand.New(rand.NewSource(8))
	for range 300 {
		l := many(r.Intn(api.MaxOdds+1), func(i int) api.Booking {
			return percent(booking(key(i), "mini", 1, 2), []int{0, 1, 50, 99, 100, r.Intn(101)}[r.Intn(6)])
		})
		spread, e := book.Spread(l)
		what := fmt.Sprint(l)
		is(t, what, e, api.OK)
		is(t, what, len(spread), len(l)+1)
		same(t, what, spread, spreadOf(l))
		units := r.Intn(len(l) + 2)
		risk := fraction(r.Intn(11), 10)
		most := 0
		before := new(big.Rat)
		for k := range len(l) + 1 {
			sum := new(big.Rat)
			for _, f := range spreadOf(l[:k])[min(units+1, k+1):] {
				sum.Add(sum, big.NewRat(int64(f.Num), int64(f.Den)))
			}
			over, e := book.Over(l[:k], units)
			is(t, what+": Over", over, fractionOf(sum))
			is(t, what+": Over", e, api.OK)
			is(t, what+": does not fall", sum.Cmp(before) >= 0, true)
			before = sum
			if sum.Cmp(big.NewRat(int64(risk.Num), int64(risk.Den))) <= 0 {
				most = k
			}
		}
		got, e := book.Most(l, units, risk)
		is(t, what+": Most", got, most)
		is(t, what+": Most", e, api.OK)
	}
}

// spreadOf goes through all sets of those who come.
func spreadOf(l []api.Booking) []api.Fraction {
	sums := many(len(l)+1, func(int) *big.Rat { return new(big.Rat) })
	for set := range 1 << len(l) {
		odds, count := big.NewRat(1, 1), 0
		for i, b := range l {
			if set>>i&1 == 1 {
				odds.Mul(odds, big.NewRat(int64(b.Percent), 100))
				count++
			} else {
				odds.Mul(odds, big.NewRat(int64(100-b.Percent), 100))
			}
		}
		sums[count].Add(sums[count], odds)
	}
	return many(len(l)+1, func(k int) api.Fraction { return fractionOf(sums[k]) })
}

func fractionOf(x *big.Rat) api.Fraction {
	return fraction(int(x.Num().Int64()), int(x.Denom().Int64()))
}
