package desk

import (
	"maps"
	"slices"

	"forecourt/api"
	"forecourt/hire"
	"forecourt/tariff"
)

// Accounts that are not those of lines.
const (
	cashAccount = "cash"
	dueAccount  = "due"
)

// lineAccounts has the accounts of the kinds of lines.
var lineAccounts = [...]string{
	api.LinePiece: "rent",
	api.LineCode:  "code",
	api.LineExtra: "extra",
	api.LineFee:   "fee",
	api.LineTax:   "tax",
	api.LineOther: "other",
}

// linesOf has the lines of a hire that is not open; none, if they cannot be made.
func (o *office) linesOf(h api.Hire) []api.Line {
	first, last := h.Legs[0], h.Legs[len(h.Legs)-1]
	ask := api.Ask{Class: o.classes[first.Vehicle], Time: h.Time, A: first.Out.Station, B: last.In.Station}
	// With an error there are no lines of the quote, but those of the bill.
	quoted, _ := tariff.Quote(o.house.Tariff, ask)
	lines, _ := hire.Bill(o.house.Deal, h, quoted)
	return lines
}

// post moves cents from an account to another one.
func (o *office) post(from, to string, cents int) {
	o.accounts[from] -= cents
	o.accounts[to] += cents
}

func (o *office) postLines(l []api.Line) {
	for _, x := range l {
		o.post(lineAccounts[x.Kind], dueAccount, x.Cents)
	}
}

// ended is a hire that is not open.
func (o *office) ended(key string) (contract, api.Errno) {
	c, known := o.hires[key]
	switch {
	case !known:
		return contract{}, api.ErrNone
	case !c.ended:
		return contract{}, api.ErrState
	}
	return c, api.OK
}

func (o *office) balance(key string) (int, api.Errno) {
	c, e := o.ended(key)
	if e != api.OK {
		return 0, e
	}
	total, _ := tariff.Total(c.lines)
	return total - c.paid, api.OK
}

func (o *office) ledger() []api.Posting {
	var l []api.Posting
	for _, account := range slices.Sorted(maps.Keys(o.accounts)) {
		if cents := o.accounts[account]; cents != 0 {
			l = append(l, api.Posting{Account: account, Cents: cents})
		}
	}
	return l
}

// Lines returns the lines of a hire.
func Lines(h api.House, l []api.Entry, key string) ([]api.Line, api.Errno) {
	o, e := officeOf(h, l)
	if e != api.OK {
		return nil, e
	}
	c, e := o.ended(key)
	return c.lines, e
}

// Balance is what is still due for a hire.
func Balance(h api.House, l []api.Entry, key string) (int, api.Errno) {
	o, e := officeOf(h, l)
	if e != api.OK {
		return 0, e
	}
	return o.balance(key)
}

// Ledger returns the accounts.
func Ledger(h api.House, l []api.Entry) ([]api.Posting, api.Errno) {
	o, e := officeOf(h, l)
	if e != api.OK {
		return nil, e
	}
	return o.ledger(), api.OK
}
