package tariff

import (
	"sort"

	"forecourt/api"
	"forecourt/basic"
)

// Cost is the price of a division.
func Cost(l []api.Rate, class string, w api.Window, p []api.Piece) (int, api.Errno) {
	if e := checkStay(l, class, w); e != api.OK {
		return 0, e
	}
	s := stayOf(l, class, w)
	sum, covered := 0, 0
	for _, piece := range p {
		if e := s.checkPiece(covered, piece); e != api.OK {
			return 0, e
		}
		sum += piece.Cents
		covered += piece.Days
	}
	if covered < s.days() {
		return 0, api.ErrRule
	}
	return sum, api.OK
}

// checkPiece says whether a piece can begin with a rental day.
func (s stay) checkPiece(first int, p api.Piece) api.Errno {
	if !basic.Within(p.Kind, api.PieceHours, api.PieceWeek) {
		return api.ErrKind
	}
	if first >= s.days() || s.seasons[first] == nil {
		return api.ErrNone
	}
	for _, usable := range s.pieces(first) {
		if usable.Kind != p.Kind || usable.Days != p.Days {
			continue
		}
		if usable.Cents != p.Cents {
			return api.ErrSum
		}
		return api.OK
	}
	return api.ErrRule
}

// Divide is the cheapest division of a hire.
func Divide(l []api.Rate, class string, w api.Window) ([]api.Piece, api.Errno) {
	if e := checkStay(l, class, w); e != api.OK {
		return nil, e
	}
	s := stayOf(l, class, w)
	plans := s.plans()
	if !plans[0].possible {
		return nil, api.ErrNone
	}
	var pieces []api.Piece
	for day := 0; day < s.days(); day += plans[day].first.Days {
		pieces = append(pieces, plans[day].first)
	}
	return pieces, api.OK
}

// plan is the best division of the rental days from one on: what it costs, how many pieces it has, and the first one of them.
type plan struct {
	possible     bool
	cents, count int
	first        api.Piece
}

// better says whether a plan costs less than another one, or as much with fewer pieces.
func (p plan) better(other plan) bool {
	switch {
	case !p.possible || !other.possible:
		return p.possible
	case p.cents != other.cents:
		return p.cents < other.cents
	}
	return p.count < other.count
}

// plans has the plan from each rental day on, and an empty one behind the last one. Of equal plans the one is kept whose first piece comes first: what follows is the best for its own days.
func (s stay) plans() []plan {
	plans := make([]plan, s.days()+1)
	plans[s.days()].possible = true
	for day := s.days() - 1; day >= 0; day-- {
		for _, piece := range s.pieces(day) {
			p := plans[day+piece.Days]
			p.cents += piece.Cents
			p.count++
			p.first = piece
			if p.better(plans[day]) {
				plans[day] = p
			}
		}
	}
	return plans
}

// Stretch is how long a hire can last for the same price.
func Stretch(l []api.Rate, class string, w api.Window) (int, api.Errno) {
	if e := checkStay(l, class, w); e != api.OK {
		return 0, e
	}
	least := stayOf(l, class, w).plans()[0]
	if !least.possible {
		return 0, api.ErrNone
	}
	// A longer hire never costs less, and has no division where a shorter one has none: the first one that is not for the same price can be searched for by halves.
	last := min(w.From+api.MaxDays*api.DayLong, api.End-1)
	more := sort.Search(last-w.To, func(minutes int) bool {
		longer := api.Window{From: w.From, To: w.To + minutes + 1}
		p := stayOf(l, class, longer).plans()[0]
		return !p.possible || p.cents > least.cents
	})
	return w.To + more, api.OK
}
