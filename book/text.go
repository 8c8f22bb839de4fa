package book

import (
	"forecourt/api"
	"forecourt/basic"
)

// Text writes bookings.
func Text(l []api.Booking) (string, api.Errno) {
	if e := checkForm(l); e != api.OK {
		return "", e
	}
	var lines basic.Writer
	for _, b := range l {
		numbers := basic.Decimals(b.Time.From, b.Time.To, b.Made, b.Percent)
		lines.Line(append([]string{b.Key, b.Class}, numbers...)...)
	}
	return lines.Whole()
}

// Read reads bookings.
func Read(text string) ([]api.Booking, int, api.Errno) {
	return basic.List(text, readBooking, checkForm)
}

func readBooking(words []string) (api.Booking, bool) {
	if len(words) < 2 {
		return api.Booking{}, false
	}
	b := api.Booking{Key: words[0], Class: words[1]}
	ok := basic.Numbers(words[2:], &b.Time.From, &b.Time.To, &b.Made, &b.Percent)
	return b, ok
}
