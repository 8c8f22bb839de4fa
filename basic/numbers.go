package basic

import "forecourt/api"

// Whole is the whole, in thousandths.
const Whole = 1000

// HourLong is how many minutes an hour has.
const HourLong = 60

// Begun is how many parts of one length are begun in a length that is not below 0.
func Begun(long, part int) int { return (long + part - 1) / part }

// Within says whether a number is from one number to another one.
func Within(n, least, most int) bool { return least <= n && n <= most }

// Lowest is a fraction in lowest terms; den is above 0, and num is not below it.
func Lowest(num, den int) api.Fraction {
	common, rest := den, num
	for rest != 0 {
		common, rest = rest, common%rest
	}
	return api.Fraction{Num: num / common, Den: den / common}
}
