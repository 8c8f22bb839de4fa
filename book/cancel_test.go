package book_test

import (
	"fmt"
	"math/rand"
	"testing"

	"forecourt/api"
	"forecourt/book"
)

// tiers are for a day, two hours, and the time behind the beginning.
func tiers() []api.Tier {
	return []api.Tier{{Before: 1440, Permille: 100}, {Before: 120, Permille: 500}, {Before: 1, Permille: 1000}}
}

type tierCase struct {
	what string
	l    []api.Tier
	want api.Errno
}

func tierCases() []tierCase {
	one := func(before, permille int) []api.Tier { return []api.Tier{{Before: before, Permille: permille}} }
	two := func(before, permille int) []api.Tier {
		return []api.Tier{{Before: 100, Permille: 500}, {Before: before, Permille: permille}}
	}
	falling := func(i int) api.Tier { return api.Tier{Before: 100 - i, Permille: i} }
	return []tierCase{
		{"none", nil, api.OK},
		{"ordinary", tiers(), api.OK},
		{"MaxTiers", many(api.MaxTiers, falling), api.OK},
		{"more", many(api.MaxTiers+1, falling), api.ErrLarge},
		{"large before numbers", make([]api.Tier, api.MaxTiers+1), api.ErrLarge},
		{"Before 1", one(1, 5), api.OK},
		{"Before 0", one(0, 5), api.ErrArg},
		{"least Before", one(least, 5), api.ErrArg},
		{"Before End", one(api.End, 5), api.OK},
		{"Before above", one(api.End+1, 5), api.ErrArg},
		{"Permille 0", one(5, 0), api.OK},
		{"Permille below", one(5, -1), api.ErrArg},
		{"Permille 1000", one(5, 1000), api.OK},
		{"Permille above", one(5, 1001), api.ErrArg},
		{"greatest Permille", one(5, greatest), api.ErrArg},
		{"less and more", two(99, 501), api.OK},
		{"the same Permille", two(99, 500), api.OK},
		{"the same Before", two(100, 501), api.ErrOrder},
		{"a greater Before", two(101, 501), api.ErrOrder},
		{"less Permille", two(99, 499), api.ErrOrder},
		{"numbers before order", two(101, 1001), api.ErrArg},
		{"order before the next numbers", append(two(101, 501), api.Tier{}), api.ErrOrder},
	}
}

// P3.5
func TestCheckTiers(t *testing.T) {
	for _, c := range tierCases() {
		is(t, c.what, book.CheckTiers(c.l), c.want)
	}
}

// P3.5
func TestCancelFee(t *testing.T) {
	b := booking("a", "mini", 10_000, 20_000)
	cases := []struct {
		what      string
		l         []api.Tier
		cents, at int
		want      int
	}{
		{"no tiers", nil, 1000, 10_000, 0},
		{"long before", tiers(), 1000, 0, 0},
		{"just in time", tiers(), 1000, 10_000 - 1440, 0},
		{"a minute later", tiers(), 1000, 10_000 - 1439, 100},
		{"two hours before", tiers(), 1000, 10_000 - 120, 100},
		{"less than two hours", tiers(), 1000, 10_000 - 119, 500},
		{"a minute before", tiers(), 1000, 9_999, 500},
		{"as it begins", tiers(), 1000, 10_000, 1000},
		{"later", tiers(), 1000, 15_000, 1000},
		{"much later", tiers(), 1000, api.End - 1, 1000},
		{"rounded down", tiers(), 999, 9_999, 499},
		{"nothing is left of a tenth", tiers(), 9, 10_000 - 1439, 0},
		{"the greatest price", tiers(), api.MaxCents, 10_000, api.MaxCents},
		{"free", tiers(), 0, 10_000, 0},
		{"all that is before", []api.Tier{{Before: api.End, Permille: 7}}, 1000, 0, 7},
	}
	for _, c := range cases {
		n, e := book.CancelFee(c.l, b, c.cents, c.at)
		is(t, c.what, n, c.want)
		is(t, c.what, e, api.OK)
	}
	n, e := book.CancelFee(tiers(), booking("a", "bus", 0, 1), 1000, 0)
	is(t, "any class", n, 1000)
	is(t, "any class", e, api.OK)
}

// P3.5: each case has errors that come later, too.
func TestCancelFeeErrors(t *testing.T) {
	for _, c := range tierCases() {
		n, e := book.CancelFee(c.l, api.Booking{Key: "A"}, -1, -1)
		want := c.want
		if want == api.OK {
			want = api.ErrName
		}
		is(t, c.what, n, 0)
		is(t, c.what, e, want)
	}
	b := booking("a", "mini", 10, 20)
	cases := []struct {
		what      string
		b         api.Booking
		cents, at int
		want      api.Errno
	}{
		{"key", booking("", "mini", 10, 20), -1, -1, api.ErrName},
		{"class", booking("a", "", 10, 20), -1, -1, api.ErrName},
		{"time", booking("a", "mini", 10, 10), 5, 5, api.ErrArg},
		{"greatest time", booking("a", "mini", greatest, greatest), 5, 5, api.ErrArg},
		{"made", made(b, 11), 5, 5, api.ErrArg},
		{"percent", percent(b, 101), 5, 5, api.ErrArg},
		{"cents below", b, -1, 5, api.ErrArg},
		{"cents above", b, api.MaxCents + 1, 5, api.ErrArg},
		{"greatest cents", b, greatest, 5, api.ErrArg},
		{"moment below", b, 5, -1, api.ErrArg},
		{"moment at End", b, 5, api.End, api.ErrArg},
		{"least moment", b, 5, least, api.ErrArg},
	}
	for _, c := range cases {
		n, e := book.CancelFee(tiers(), c.b, c.cents, c.at)
		is(t, c.what, n, 0)
		is(t, c.what, e, c.want)
	}
}

// P3.5: what is due does not fall as time goes on.
func TestCancelFeeAtRandom(t *testing.T) {
	r := rand.New(rand.NewSource(9))
	for range 300 {
		var l []api.Tier
		before, permille := 60, 0
		for range r.Intn(5) {
			before -= 1 + r.Intn(10)
			permille += r.Intn(200)
			l = append(l, api.Tier{Before: before, Permille: permille})
		}
		b, cents := booking("a", "mini", 70, 80), r.Intn(5000)
		last := 0
		for at := range 90 {
			want := 0
			for _, x := range l {
				if x.Before > 70-at {
					want = cents * x.Permille / 1000
				}
			}
			n, e := book.CancelFee(l, b, cents, at)
			is(t, fmt.Sprint(l, cents, at), n, want)
			is(t, fmt.Sprint(l, cents, at), e, api.OK)
			is(t, "does not fall", n >= last, true)
			last = n
		}
	}
}
