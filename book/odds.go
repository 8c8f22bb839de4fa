package book

import (
	"math/bits"

	"forecourt/api"
	"forecourt/basic"
)

// certain is the Percent of somebody who comes without doubt.
const certain = 100

// maxDen is the greatest Den of a risk.
const maxDen = 1_000_000

// Spread tells how likely each number of those who come is.
func Spread(l []api.Booking) ([]api.Fraction, api.Errno) {
	if e := checkOdds(l); e != api.OK {
		return nil, e
	}
	cases, all := casesOf(l)
	var spread []api.Fraction
	for _, n := range cases {
		spread = append(spread, basic.Lowest(n, all))
	}
	return spread, api.OK
}

// Over is how likely it is that more than units come.
func Over(l []api.Booking, units int) (api.Fraction, api.Errno) {
	if e := checkUnits(l, units); e != api.OK {
		return api.Fraction{}, e
	}
	return over(l, units), api.OK
}

// Most is how many bookings can be taken at a risk.
func Most(l []api.Booking, units int, risk api.Fraction) (int, api.Errno) {
	if e := checkUnits(l, units); e != api.OK {
		return 0, e
	}
	if !basic.Within(risk.Den, 1, maxDen) || !basic.Within(risk.Num, 0, risk.Den) {
		return 0, api.ErrArg
	}
	// Without bookings nobody comes, and the risk is 0.
	most := len(l)
	for isGreater(over(l[:most], units), risk) {
		most--
	}
	return most, api.OK
}

// checkOdds says whether bookings are well formed, and few enough for fractions.
func checkOdds(l []api.Booking) api.Errno {
	if e := checkForm(l); e != api.OK {
		return e
	}
	if len(l) > api.MaxOdds {
		return api.ErrLarge
	}
	return api.OK
}

func checkUnits(l []api.Booking, units int) api.Errno {
	if e := checkOdds(l); e != api.OK {
		return e
	}
	if !basic.Within(units, 0, api.MaxBookings) {
		return api.ErrArg
	}
	return api.OK
}

// casesOf has, for each number of those who come, in how many of a number of equally likely cases just so many do. These are at most 100 to the power of MaxOdds, which is 10^18.
func casesOf(l []api.Booking) ([]int, int) {
	cases, all := []int{1}, 1
	for _, b := range l {
		next := make([]int, len(cases)+1)
		for k, n := range cases {
			next[k] += n * (certain - b.Percent)
			next[k+1] += n * b.Percent
		}
		cases = next
		all *= certain
	}
	return cases, all
}

// over is how likely it is that more than units come, of bookings that are right.
func over(l []api.Booking, units int) api.Fraction {
	cases, all := casesOf(l)
	sum := 0
	for k, n := range cases {
		if k > units {
			sum += n
		}
	}
	return basic.Lowest(sum, all)
}

// isGreater compares two fractions that are not below 0. The products can need more than 64 bits.
func isGreater(a, b api.Fraction) bool {
	aHigh, aLow := bits.Mul64(uint64(a.Num), uint64(b.Den))
	bHigh, bLow := bits.Mul64(uint64(b.Num), uint64(a.Den))
	return aHigh > bHigh || aHigh == bHigh && aLow > bLow
}
