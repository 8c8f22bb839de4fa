package tariff

import (
	"forecourt/api"
	"forecourt/basic"
)

// Days is how many rental days a hire has.
func Days(w api.Window) (int, api.Errno) {
	if !basic.IsTime(w) {
		return 0, api.ErrArg
	}
	days := basic.Begun(w.To-w.From, api.DayLong)
	if days > api.MaxDays {
		return 0, api.ErrLarge
	}
	return days, api.OK
}

// checkTime says whether the time of a hire is right.
func checkTime(w api.Window) api.Errno {
	_, e := Days(w)
	return e
}

// stay is the time of a hire, with the season of each rental day (nil: none).
type stay struct {
	time    api.Window
	seasons []*api.Rate
}

// checkStay says whether rates, a class and the time of a hire are right.
func checkStay(l []api.Rate, class string, w api.Window) api.Errno {
	if e := CheckRates(l); e != api.OK {
		return e
	}
	if !basic.IsKey(class) {
		return api.ErrName
	}
	return checkTime(w)
}

// stayOf makes a stay of what is right.
func stayOf(l []api.Rate, class string, w api.Window) stay {
	s := stay{time: w}
	for begin := w.From; begin < w.To; begin += api.DayLong {
		s.seasons = append(s.seasons, seasonOn(l, class, begin/api.DayLong))
	}
	return s
}

func (s stay) days() int { return len(s.seasons) }

// begins is the moment at which a rental day begins.
func (s stay) begins(day int) int { return s.time.From + day*api.DayLong }

// ends is the moment at which a rental day is over.
func (s stay) ends(day int) int { return min(s.begins(day+1), s.time.To) }

// pieces returns the pieces that can begin with a rental day, by Kind, then Days.
func (s stay) pieces(first int) []api.Piece {
	season := s.seasons[first]
	if season == nil {
		return nil
	}
	var pieces []api.Piece
	add := func(kind, days, price, times int) {
		if price != notOffered {
			pieces = append(pieces, api.Piece{Kind: kind, Days: days, Cents: price * times})
		}
	}
	if first == s.days()-1 {
		add(api.PieceHours, 1, season.Hour, basic.Begun(s.ends(first)-s.begins(first), basic.HourLong))
	}
	add(api.PieceDay, 1, season.Day, 1)
	for before := range s.weekendDays(first) {
		add(api.PieceWeekend, before+1, season.Weekend, 1)
	}
	if days := min(weekDays, s.days()-first); s.sameSeason(first, days) {
		add(api.PieceWeek, days, season.Week, 1)
	}
	return pieces
}

const (
	weekDays = 7
	weekLong = weekDays * api.DayLong

	// A weekend goes from Friday, 12 o'clock, to Monday, 12 o'clock; weeks are counted from a Monday.
	weekendBegins = 4*api.DayLong + 720
	weekendLong   = 3 * api.DayLong
)

// weekendDays is how many rental days from one on a weekend can have; 0 if it does not begin in one.
func (s stay) weekendDays(first int) int {
	// The first Monday belongs to a weekend that began before moment 0: a week is added, so that nothing is below 0.
	gone := (s.begins(first) + weekLong - weekendBegins) % weekLong
	if gone >= weekendLong {
		return 0
	}
	over := s.begins(first) - gone + weekendLong
	days := 0
	for day := first; day < s.days() && s.seasons[day] != nil && s.ends(day) <= over; day++ {
		days++
	}
	return days
}

// sameSeason says whether so many rental days have the season of the first one.
func (s stay) sameSeason(first, days int) bool {
	for _, season := range s.seasons[first : first+days] {
		if season != s.seasons[first] {
			return false
		}
	}
	return true
}
