package basic_test

import (
	"cmp"
	"slices"
	"testing"

	"forecourt/api"
	"forecourt/basic"
)

// card has its place in the order by its number.
type card struct {
	number int
	sign   string
}

func byNumber(a, b card) int { return cmp.Compare(a.number, b.number) }

func TestMerge(t *testing.T) {
	a, b, c, d := card{1, "a"}, card{2, "b"}, card{3, "c"}, card{4, "d"}
	cases := []struct {
		what       string
		a, b, want []card
		e          api.Errno
	}{
		{"nothing", nil, nil, nil, api.OK},
		{"the first list", []card{a, c}, nil, []card{a, c}, api.OK},
		{"the second list", nil, []card{a, c}, []card{a, c}, api.OK},
		{"one behind the other", []card{a, b}, []card{c, d}, []card{a, b, c, d}, api.OK},
		{"by turns", []card{b, d}, []card{a, c}, []card{a, b, c, d}, api.OK},
		{"equal ones", []card{a, b, d}, []card{b, c, d}, []card{a, b, c, d}, api.OK},
		{"the same", []card{a, b, c, d}, []card{a, b, c, d}, []card{a, b, c, d}, api.OK},
		{"different ones of one number", []card{a, b}, []card{{2, "x"}, c}, nil, api.ErrConflict},
		{"different ones, the second list behind", []card{b, c}, []card{a, {3, "x"}}, nil, api.ErrConflict},
		{"too many", []card{a, b, c}, []card{d, {5, "e"}}, nil, api.ErrLarge},
		{"conflict before too many", []card{a, b, c, d}, []card{{0, "x"}, {4, "x"}}, nil, api.ErrConflict},
	}
	for _, x := range cases {
		l, e := basic.Merge(x.a, x.b, byNumber, 4)
		if !slices.Equal(l, x.want) || e != x.e {
			t.Errorf("%s: %v, %d", x.what, l, e)
		}
	}
}

// What is merged is in memory of its own.
func TestMergedIsNew(t *testing.T) {
	a, b := make([]card, 2, 9), make([]card, 0, 9)
	a[0], a[1] = card{1, "a"}, card{2, "b"}
	for _, l := range [][2][]card{{a, b}, {b, a}} {
		merged, _ := basic.Merge(l[0], l[1], byNumber, 9)
		merged[0].sign = "x"
		_ = append(merged, card{3, "c"})
		if a[0].sign != "a" || a[:3][2].sign != "" || b[:1][0].sign != "" {
			t.Errorf("merging has changed %v, %v", a[:3], b[:1])
		}
	}
}
