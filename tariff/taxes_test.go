package tariff_test

import (
	"fmt"
	"math"
	"math/big"
	"math/rand"
	"testing"

	"forecourt/api"
	"forecourt/tariff"
)

func tax(key string, permille int, over bool, on ...int) api.Tax {
	return api.Tax{Key: key, Permille: permille, On: on, Over: over}
}

func line(kind int, key string, cents int) api.Line {
	return api.Line{Kind: kind, Key: key, Cents: cents}
}

// P2.5
func TestCheckTaxes(t *testing.T) {
	numbered := func(i int) api.Tax { return tax(key(9-i%10)+key(i), 1, false) }
	on := func(kinds ...int) []api.Tax { return []api.Tax{tax("a", 1, false, kinds...)} }
	runChecks(t, tariff.CheckTaxes, []check[api.Tax]{
		{"none", nil, api.OK},
		{"MaxTaxes", many(api.MaxTaxes, numbered), api.OK},
		{"more", many(api.MaxTaxes+1, numbered), api.ErrLarge},
		{"large before name", make([]api.Tax, api.MaxTaxes+1), api.ErrLarge},
		{"no key", []api.Tax{{}}, api.ErrName},
		{"longer key", []api.Tax{tax(longerKey, 1, false)}, api.ErrName},
		{"unknown key twice", []api.Tax{tax("a", 1, false), tax("A", 1, false)}, api.ErrName},
		{"any order", []api.Tax{tax("b", 1, false), tax("a", 1, false)}, api.OK},
		{"twice", []api.Tax{tax("b", 1, false), tax("a", 1, false), tax("b", 2, true)}, api.ErrTwice},
		{"twice before Permille", []api.Tax{tax("b", 1, false), tax("b", -1, true)}, api.ErrTwice},
		{"nothing", []api.Tax{tax("b", 0, false)}, api.OK},
		{"all of it", []api.Tax{tax("b", 1000, false)}, api.OK},
		{"Permille below", []api.Tax{tax("b", -1, false)}, api.ErrArg},
		{"Permille above", []api.Tax{tax("b", 1001, false)}, api.ErrArg},
		{"Permille before On", []api.Tax{tax("b", 1001, false, 9)}, api.ErrArg},
		{"all kinds", on(1, 2, 3, 4, 6), api.OK},
		{"LineTax", on(api.LineTax), api.ErrKind},
		{"LineTax behind others", on(1, 2, 3, 4, 5, 6), api.ErrKind},
		{"kind 0", on(0), api.ErrKind},
		{"kind 7", on(1, 7), api.ErrKind},
		{"least kind", on(math.MinInt), api.ErrKind},
		{"greatest kind", on(math.MaxInt), api.ErrKind},
		{"same kind", on(2, 2), api.ErrOrder},
		{"lesser kind", on(1, 3, 2), api.ErrOrder},
		{"kind before order", on(3, 0), api.ErrKind},
		{"the first kind that is wrong", on(3, 2, 9), api.ErrOrder},
		{"On before the next name", []api.Tax{tax("a", 1, false, 9), {}}, api.ErrKind},
	})
}

// P2.5
func TestCheckLines(t *testing.T) {
	numbered := func(i int) api.Line { return line(1+i%6, "a", i) }
	runChecks(t, tariff.CheckLines, []check[api.Line]{
		{"none", nil, api.OK},
		{"1000", many(1000, numbered), api.OK},
		{"more", many(1001, numbered), api.ErrLarge},
		{"large before kind", make([]api.Line, 1001), api.ErrLarge},
		{"kind 0", []api.Line{line(0, "a", 1)}, api.ErrKind},
		{"kind 7", []api.Line{line(7, "a", 1)}, api.ErrKind},
		{"kind before name", []api.Line{line(-1, "", 1)}, api.ErrKind},
		{"no key", []api.Line{line(1, "", 1)}, api.ErrName},
		{"longer key", []api.Line{line(1, longerKey, 1)}, api.ErrName},
		{"name before Cents", []api.Line{line(1, "A", api.MaxCents+1)}, api.ErrName},
		{"same and lesser keys", []api.Line{line(6, "b", 1), line(1, "b", 1), line(1, "a", 1)}, api.OK},
		{"MaxCents", []api.Line{line(1, "a", api.MaxCents), line(1, "a", -api.MaxCents)}, api.OK},
		{"above", []api.Line{line(1, "a", api.MaxCents+1)}, api.ErrArg},
		{"below", []api.Line{line(1, "a", -api.MaxCents-1)}, api.ErrArg},
		{"greatest", []api.Line{line(1, "a", math.MaxInt)}, api.ErrArg},
		{"least", []api.Line{line(1, "a", math.MinInt)}, api.ErrArg},
		{"Cents before the next kind", []api.Line{line(1, "a", math.MinInt), line(9, "", 1)}, api.ErrArg},
	})
}

// P2.5
func TestTotal(t *testing.T) {
	full := many(1000, func(int) api.Line { return line(6, "a", api.MaxCents) })
	cases := []struct {
		what string
		l    []api.Line
		want int
		e    api.Errno
	}{
		{"none", nil, 0, api.OK},
		{"some", []api.Line{line(1, "a", 50), line(2, "b", -60), line(5, "c", 7)}, -3, api.OK},
		{"the most", full, 1000 * api.MaxCents, api.OK},
		{"wrong", []api.Line{line(1, "a", 50), line(0, "a", 50)}, 0, api.ErrKind},
		{"too many", append(full, full[0]), 0, api.ErrLarge},
	}
	for _, c := range cases {
		n, e := tariff.Total(c.l)
		is(t, c.what, n, c.want)
		is(t, c.what, e, c.e)
	}
}

// P2.5
func TestTaxLines(t *testing.T) {
	l := []api.Line{line(1, "day", 100), line(1, "hours", 5), line(2, "code", -30), line(4, "oneway", 20), line(6, "late", 1000)}
	cases := []struct {
		what  string
		taxes []api.Tax
		want  []int
	}{
		{"none", nil, nil},
		{"on nothing", []api.Tax{tax("a", 1000, false)}, []int{0}},
		{"on a kind", []api.Tax{tax("a", 1000, false, 1)}, []int{105}},
		{"on a kind that there is not", []api.Tax{tax("a", 1000, false, 3)}, []int{0}},
		{"on some kinds", []api.Tax{tax("a", 1000, false, 1, 2, 6)}, []int{1075}},
		{"in their order", []api.Tax{tax("b", 1000, false, 1), tax("a", 1000, false, 2)}, []int{105, -30}},
		{"rounded up", []api.Tax{tax("a", 100, false, 1)}, []int{11}},
		{"rounded down", []api.Tax{tax("a", 99, false, 1)}, []int{10}},
		{"halves below 0 become greater", []api.Tax{tax("a", 50, false, 2), tax("b", 150, false, 2), tax("c", 450, false, 2)}, []int{-1, -4, -13}},
		{"below 0", []api.Tax{tax("a", 51, false, 2), tax("b", 49, false, 2), tax("c", 16, false, 2), tax("d", 17, false, 2)}, []int{-2, -1, 0, -1}},
		{"over those before it", []api.Tax{tax("a", 100, false, 6), tax("b", 10, false, 6), tax("c", 1000, true, 4), tax("d", 1000, true)}, []int{100, 10, 130, 240}},
		{"not over those behind it", []api.Tax{tax("a", 1000, true, 4), tax("b", 100, false, 6)}, []int{20, 100}},
		{"what is over is rounded", []api.Tax{tax("a", 5, false, 1), tax("b", 1000, true)}, []int{1, 1}},
	}
	for _, c := range cases {
		var want []api.Line
		for i, x := range c.taxes {
			want = append(want, line(api.LineTax, x.Key, c.want[i]))
		}
		got, e := tariff.TaxLines(c.taxes, l)
		same(t, c.what, got, want)
		is(t, c.what, e, api.OK)
	}
}

// P2.5, Z6: nothing overflows.
func TestTaxLinesGreatest(t *testing.T) {
	full := many(1000, func(int) api.Line { return line(6, "a", api.MaxCents) })
	taxes := many(api.MaxTaxes, func(i int) api.Tax { return tax(key(i), 1000, true, 6) })
	got, e := tariff.TaxLines(taxes, full)
	is(t, "greatest", e, api.OK)
	for i, x := range got {
		is(t, x.Key, x.Cents, 1000*api.MaxCents<<i)
	}
	is(t, "such lines are refused", tariff.CheckLines(got), api.ErrArg)
}

// P2.5
func TestTaxLinesErrors(t *testing.T) {
	cases := []struct {
		what  string
		taxes []api.Tax
		l     []api.Line
		want  api.Errno
	}{
		{"taxes first", []api.Tax{tax("a", 1001, false)}, []api.Line{line(5, "", 1)}, api.ErrArg},
		{"lines", nil, []api.Line{line(5, "a", 1), line(1, "", 1)}, api.ErrName},
		{"a LineTax", nil, []api.Line{line(1, "a", 1), line(5, "a", 1)}, api.ErrKind},
	}
	for _, c := range cases {
		l, e := tariff.TaxLines(c.taxes, c.l)
		same(t, c.what, l, nil)
		is(t, c.what, e, c.want)
	}
}

// P2.5: n * Permille / 1000, and a half, rounded down.
func TestTaxLinesAtRandom(t *testing.T) {
	r := rand.New(rand.NewSource(7))
	for range 3000 {
		l := many(r.Intn(6), func(int) api.Line {
			return line([]int{1, 2, 3, 4, 6}[r.Intn(5)], "a", r.Intn(4001)-2000)
		})
		taxes := many(1+r.Intn(4), func(i int) api.Tax {
			x := tax(key(i), []int{r.Intn(1001), 500, 250}[r.Intn(3)], r.Intn(2) == 0)
			for _, kind := range []int{1, 2, 3, 4, 6} {
				if r.Intn(2) == 0 {
					x.On = append(x.On, kind)
				}
			}
			return x
		})
		got, e := tariff.TaxLines(taxes, l)
		is(t, "random", e, api.OK)
		before := 0
		for i, x := range taxes {
			n := 0
			for _, kind := range x.On {
				for _, y := range l {
					if y.Kind == kind {
						n += y.Cents
					}
				}
			}
			if x.Over {
				n += before
			}
			// Div of big rounds down where the divisor is above 0.
			part := new(big.Int).Div(big.NewInt(int64(2*n*x.Permille+1000)), big.NewInt(2000))
			is(t, fmt.Sprint(taxes, l), got[i], line(api.LineTax, x.Key, int(part.Int64())))
			before += got[i].Cents
		}
		is(t, "as many as taxes", len(got), len(taxes))
	}
}
