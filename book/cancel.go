package book

import (
	"forecourt/api"
	"forecourt/basic"
)

// CheckTiers says whether tiers are right.
func CheckTiers(l []api.Tier) api.Errno {
	if len(l) > api.MaxTiers {
		return api.ErrLarge
	}
	for i, x := range l {
		switch {
		case !basic.Within(x.Before, 1, api.End) || !basic.Within(x.Permille, 0, basic.Whole):
			return api.ErrArg
		case i > 0 && (x.Before >= l[i-1].Before || x.Permille < l[i-1].Permille):
			return api.ErrOrder
		}
	}
	return api.OK
}

// CancelFee is what is due if a booking is cancelled.
func CancelFee(l []api.Tier, b api.Booking, cents, at int) (int, api.Errno) {
	if e := CheckTiers(l); e != api.OK {
		return 0, e
	}
	if e := checkForm([]api.Booking{b}); e != api.OK {
		return 0, e
	}
	if !basic.Within(cents, 0, api.MaxCents) || !basic.IsMoment(at) {
		return 0, api.ErrArg
	}
	permille := 0
	for _, x := range l {
		if x.Before > b.Time.From-at {
			permille = x.Permille
		}
	}
	return cents * permille / basic.Whole, api.OK
}
