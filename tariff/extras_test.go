package tariff_test

import (
	"fmt"
	"math"
	"testing"

	"forecourt/api"
	"forecourt/tariff"
)

func extras() []api.Extra {
	return []api.Extra{{Key: "chain", Once: 7}, {Key: "gps", Day: 4, Most: -1}, {Key: "seat", Once: 5, Day: 3, Most: 10}}
}

// P2.3
func TestCheckExtras(t *testing.T) {
	numbered := func(i int) api.Extra { return api.Extra{Key: key(i)} }
	one := func(once, day, most int) []api.Extra {
		return []api.Extra{{Key: "a", Once: once, Day: day, Most: most}}
	}
	runChecks(t, tariff.CheckExtras, []check[api.Extra]{
		{"none", nil, api.OK},
		{"ordinary", extras(), api.OK},
		{"MaxExtras", many(api.MaxExtras, numbered), api.OK},
		{"more", many(api.MaxExtras+1, numbered), api.ErrLarge},
		{"large before name", make([]api.Extra, api.MaxExtras+1), api.ErrLarge},
		{"no key", []api.Extra{{}}, api.ErrName},
		{"longer key", []api.Extra{{Key: longerKey}}, api.ErrName},
		{"name before order", []api.Extra{{Key: "b"}, {Key: "A"}}, api.ErrName},
		{"same key", []api.Extra{{Key: "b"}, {Key: "b"}}, api.ErrOrder},
		{"lesser key", []api.Extra{{Key: "b"}, {Key: "a"}}, api.ErrOrder},
		{"order before numbers", []api.Extra{{Key: "b"}, {Key: "a", Once: -1}}, api.ErrOrder},
		{"numbers before the next name", []api.Extra{{Key: "b", Once: -1}, {Key: "A"}}, api.ErrArg},
		{"least", one(0, 0, -1), api.OK},
		{"greatest", one(api.MaxRate, api.MaxRate, api.MaxRate), api.OK},
		{"Once below", one(-1, 0, 0), api.ErrArg},
		{"Once above", one(api.MaxRate+1, 0, 0), api.ErrArg},
		{"Day below", one(0, -1, 0), api.ErrArg},
		{"Day above", one(0, api.MaxRate+1, 0), api.ErrArg},
		{"Most below", one(0, 0, -2), api.ErrArg},
		{"Most above", one(0, 0, api.MaxRate+1), api.ErrArg},
		{"least int", one(0, math.MinInt, 0), api.ErrArg},
		{"greatest int", one(0, 0, math.MaxInt), api.ErrArg},
	})
}

// P2.3
func TestExtraCost(t *testing.T) {
	cases := []struct {
		key  string
		days int
		want int
		e    api.Errno
	}{
		{"seat", 1, 8, api.OK},
		{"seat", 3, 14, api.OK},
		{"seat", 4, 15, api.OK},
		{"seat", 7, 15, api.OK},
		{"gps", 1, 4, api.OK},
		{"gps", api.MaxDays, 4 * api.MaxDays, api.OK},
		{"chain", 5, 7, api.OK},
		{"boat", 5, 0, api.ErrNone},
		{"", 5, 0, api.ErrNone},
		{"Boat", 0, 0, api.ErrNone},
		{"seat", 0, 0, api.ErrArg},
		{"seat", -1, 0, api.ErrArg},
		{"seat", api.MaxDays + 1, 0, api.ErrArg},
		{"seat", math.MaxInt, 0, api.ErrArg},
	}
	for _, c := range cases {
		n, e := tariff.ExtraCost(extras(), c.key, c.days)
		is(t, fmt.Sprint(c.key, c.days), n, c.want)
		is(t, fmt.Sprint(c.key, c.days), e, c.e)
	}
	n, e := tariff.ExtraCost([]api.Extra{{Key: "a", Day: 5, Most: 0}}, "a", 3)
	is(t, "Most of 0", n, 0)
	is(t, "Most of 0", e, api.OK)
	n, e = tariff.ExtraCost([]api.Extra{{Key: "a", Once: api.MaxRate, Day: api.MaxRate, Most: -1}}, "a", api.MaxDays)
	is(t, "greatest", n, api.MaxRate*(1+api.MaxDays))
	is(t, "greatest", e, api.OK)
	n, e = tariff.ExtraCost([]api.Extra{{Key: "a"}, {Key: "a"}}, "b", 0)
	is(t, "extras first", n, 0)
	is(t, "extras first", e, api.ErrOrder)
}

func fees() []api.Fee {
	return []api.Fee{{A: "s1", B: "s2", Cents: 40}, {A: "s1", B: "s3", Cents: 0}, {A: "s2", B: "s1", Cents: 50}, {A: "s3", B: "s1", Cents: api.MaxRate}}
}

// P2.3
func TestCheckFees(t *testing.T) {
	numbered := func(i int) api.Fee { return api.Fee{A: "a", B: key(i)} }
	runChecks(t, tariff.CheckFees, []check[api.Fee]{
		{"none", nil, api.OK},
		{"ordinary", fees(), api.OK},
		{"MaxFees", many(api.MaxFees, numbered), api.OK},
		{"more", many(api.MaxFees+1, numbered), api.ErrLarge},
		{"large before name", make([]api.Fee, api.MaxFees+1), api.ErrLarge},
		{"no A", []api.Fee{{B: "b"}}, api.ErrName},
		{"no B", []api.Fee{{A: "a"}}, api.ErrName},
		{"A is no key", []api.Fee{{A: "A", B: "b"}}, api.ErrName},
		{"B is no key", []api.Fee{{A: "a", B: longerKey}}, api.ErrName},
		{"name before loop", []api.Fee{{A: "A", B: "A"}}, api.ErrName},
		{"loop", []api.Fee{{A: "a", B: "a"}}, api.ErrLoop},
		{"loop before order", []api.Fee{{A: "b", B: "c"}, {A: "a", B: "a"}}, api.ErrLoop},
		{"lesser A", []api.Fee{{A: "b", B: "c"}, {A: "a", B: "d"}}, api.ErrOrder},
		{"lesser B", []api.Fee{{A: "b", B: "d"}, {A: "b", B: "c"}}, api.ErrOrder},
		{"same", []api.Fee{{A: "b", B: "d"}, {A: "b", B: "d", Cents: 1}}, api.ErrOrder},
		{"greater A, lesser B", []api.Fee{{A: "b", B: "d"}, {A: "c", B: "a"}}, api.OK},
		{"order before Cents", []api.Fee{{A: "b", B: "d"}, {A: "a", B: "d", Cents: -1}}, api.ErrOrder},
		{"Cents below", []api.Fee{{A: "a", B: "b", Cents: -1}}, api.ErrArg},
		{"Cents above", []api.Fee{{A: "a", B: "b", Cents: api.MaxRate + 1}}, api.ErrArg},
		{"Cents of the greatest int", []api.Fee{{A: "a", B: "b", Cents: math.MaxInt}}, api.ErrArg},
		{"Cents before the next name", []api.Fee{{A: "a", B: "b", Cents: -1}, {}}, api.ErrArg},
	})
}

// P2.3
func TestFeeOf(t *testing.T) {
	cases := []struct {
		a, b string
		want int
		e    api.Errno
	}{
		{"s1", "s2", 40, api.OK},
		{"s2", "s1", 50, api.OK},
		{"s1", "s3", 0, api.OK},
		{"s3", "s1", api.MaxRate, api.OK},
		{"s1", "s1", 0, api.OK},
		{"s9", "s9", 0, api.OK},
		{"s2", "s3", 0, api.ErrNone},
		{"s3", "s2", 0, api.ErrNone},
		{"a", "s1", 0, api.ErrNone},
		{"", "", 0, api.ErrName},
		{"S1", "S1", 0, api.ErrName},
		{"s1", "", 0, api.ErrName},
		{"", "s1", 0, api.ErrName},
	}
	for _, c := range cases {
		n, e := tariff.FeeOf(fees(), c.a, c.b)
		is(t, c.a+" to "+c.b, n, c.want)
		is(t, c.a+" to "+c.b, e, c.e)
	}
	_, e := tariff.FeeOf(nil, "a", "b")
	is(t, "no fees", e, api.ErrNone)
	n, e := tariff.FeeOf([]api.Fee{{A: "a", B: "a"}}, "", "")
	is(t, "fees first", n, 0)
	is(t, "fees first", e, api.ErrLoop)
}
