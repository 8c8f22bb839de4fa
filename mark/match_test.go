package mark_test

import (
	"cmp"
	"math/rand"
	"slices"
	"testing"

	"forecourt/api"
	"forecourt/mark"
)

// at makes scratches on the door at places in a row, of one size.
func at(xs ...int) []api.Mark {
	var l []api.Mark
	for _, x := range xs {
		l = append(l, put("door", scratch, x, 0, 10))
	}
	return l
}

func pairings(numbers ...int) []api.Pairing {
	var l []api.Pairing
	for i := 0; i < len(numbers); i += 2 {
		l = append(l, api.Pairing{A: numbers[i], B: numbers[i+1]})
	}
	return l
}

// P5.1: what a mark can be; P5.2: a single mark is paired if it can be the other one.
func TestCanBe(t *testing.T) {
	first := put("door", scratch, 100, 100, 10)
	cases := []struct {
		what  string
		newer api.Mark
		want  bool
	}{
		{"the same", first, true},
		{"at a distance of 400", put("door", scratch, 112, 116, 8), true},
		{"at a distance of 400 before it", put("door", scratch, 88, 84, 8), true},
		{"of a lesser size", put("door", scratch, 112, 116, 7), false},
		{"of a greater size", put("door", scratch, 112, 116, api.MaxSize), true},
		{"at a distance of 401", put("door", scratch, 101, 120, 10), false},
		{"at 20, 0", put("door", scratch, 120, 100, 10), true},
		{"at 21, 0", put("door", scratch, 121, 100, 10), false},
		{"at 0, 21", put("door", scratch, 100, 79, 10), false},
		{"another kind", put("door", dent, 100, 100, 10), false},
		{"another panel", put("hood", scratch, 100, 100, 10), false},
	}
	for _, c := range cases {
		var want []api.Pairing
		if c.want {
			want = pairings(0, 0)
		}
		l, e := mark.Match(panels(), rules(), []api.Mark{first}, []api.Mark{c.newer})
		same(t, c.what, l, want)
		is(t, c.what, e, api.OK)
	}
	l, _ := mark.Match(panels(), api.Rules{}, []api.Mark{first}, []api.Mark{first})
	same(t, "Near 0", l, pairings(0, 0))
	l, _ = mark.Match(panels(), api.Rules{}, []api.Mark{first}, []api.Mark{put("door", scratch, 100, 100, 9)})
	same(t, "Slack 0", l, nil)
	l, _ = mark.Match(panels(), api.Rules{}, []api.Mark{first}, []api.Mark{put("door", scratch, 101, 100, 10)})
	same(t, "Near 0, and not there", l, nil)
	wide := []api.Panel{{Key: "door", Width: api.MaxSide, Height: api.MaxSide}}
	l, _ = mark.Match(wide, api.Rules{Near: api.MaxSide, Slack: api.MaxSize}, []api.Mark{put("door", chip, 0, 0, api.MaxSize)}, []api.Mark{put("door", chip, api.MaxSide-1, 99, 1)})
	same(t, "greatest rules", l, pairings(0, 0))
}

// P5.2
func TestMatch(t *testing.T) {
	cases := []struct {
		what string
		a, b []api.Mark
		want []api.Pairing
	}{
		{"none", nil, nil, nil},
		{"all are gone", older(), nil, nil},
		{"all are new", nil, newer(), nil},
		{"reports", older(), newer(), pairings(0, 0, 1, 1, 3, 3)},
		{"the same report", newer(), newer(), pairings(0, 0, 1, 1, 2, 2, 3, 3)},
		{"the nearest one", at(100), at(85, 95, 106), pairings(0, 1)},
		{"the nearest one behind it", at(100), at(85, 94, 105), pairings(0, 2)},
		{"the nearest one of the older ones", at(85, 95, 106), at(100), pairings(1, 0)},
		{"more pairings before nearer ones", at(100, 119), at(110, 130), pairings(0, 0, 1, 1)},
		{"more pairings, crossed", []api.Mark{put("door", chip, 10, 0, 9), put("door", chip, 20, 0, 5)}, []api.Mark{put("door", chip, 11, 0, 4), put("door", chip, 21, 0, 9)}, pairings(0, 1, 1, 0)},
		{"nearer in all", at(100, 110), at(90, 101), pairings(0, 0, 1, 1)},
		{"of equal ones the least B", at(100), at(90, 110), pairings(0, 0)},
		{"of equal ones the least A", at(90, 110), at(100), pairings(0, 0)},
		{"of equal ones the least B of the first A", []api.Mark{put("door", dent, 10, 10, 1), put("door", dent, 10, 20, 1)}, []api.Mark{put("door", dent, 5, 15, 1), put("door", dent, 15, 15, 1)}, pairings(0, 0, 1, 1)},
		{"of one place", []api.Mark{put("door", dent, 10, 10, 1), put("door", dent, 10, 10, 2)}, []api.Mark{put("door", dent, 10, 10, 1), put("door", dent, 10, 10, 2)}, pairings(0, 0, 1, 1)},
		{"kinds and panels apart", []api.Mark{put("door", scratch, 9, 9, 9), put("door", crack, 9, 9, 9), put("hood", scratch, 9, 9, 9)}, []api.Mark{put("door", dent, 9, 9, 9), put("door", crack, 8, 8, 8), put("hood", scratch, 8, 8, 8), put("hood", crack, 9, 9, 9)}, pairings(1, 1, 2, 2)},
	}
	for _, c := range cases {
		l, e := mark.Match(panels(), rules(), c.a, c.b)
		same(t, c.what, l, c.want)
		is(t, c.what, e, api.OK)
	}
}

// canBe says it as the document does.
func canBe(r api.Rules, a, b api.Mark) bool {
	return a.Panel == b.Panel && a.Kind == b.Kind && distance(a, b) <= r.Near*r.Near && b.Size >= a.Size-r.Slack
}

func distance(a, b api.Mark) int { return (a.X-b.X)*(a.X-b.X) + (a.Y-b.Y)*(a.Y-b.Y) }

// matchings hands out all matchings of a from number first on with marks of b that are not used.
func matchings(r api.Rules, a, b []api.Mark, first int, l []api.Pairing, used []bool, yield func(l []api.Pairing)) {
	if first == len(a) {
		yield(l)
		return
	}
	matchings(r, a, b, first+1, l, used, yield)
	for j := range b {
		if !used[j] && canBe(r, a[first], b[j]) {
			used[j] = true
			matchings(r, a, b, first+1, append(l[:len(l):len(l)], api.Pairing{A: first, B: j}), used, yield)
			used[j] = false
		}
	}
}

func comparePairings(x, y api.Pairing) int {
	return cmp.Or(cmp.Compare(x.A, y.A), cmp.Compare(x.B, y.B))
}

// P5.2: Match against all matchings; Apart of it, and what News, Grown and Gone say.
func TestMatchAtRandom(t *testing.T) {
	r := rand.New(rand.NewSource(21))
	sizes := map[int]int{}
	for range 3000 {
		rules, a, b := someRules(r), someMarks(r, r.Intn(10)), someMarks(r, r.Intn(10))
		mustCheck(t, somePanels(), a)
		mustCheck(t, somePanels(), b)
		var best []api.Pairing
		sum := 0
		matchings(rules, a, b, 0, nil, make([]bool, len(b)), func(l []api.Pairing) {
			apart := 0
			for _, x := range l {
				apart += distance(a[x.A], b[x.B])
			}
			if cmp.Or(cmp.Compare(len(best), len(l)), cmp.Compare(apart, sum), slices.CompareFunc(l, best, comparePairings)) < 0 {
				best, sum = slices.Clone(l), apart
			}
		})
		got, e := mark.Match(somePanels(), rules, a, b)
		same(t, "Match", got, best)
		is(t, "Match", e, api.OK)
		apart, e := mark.Apart(somePanels(), rules, a, b, got)
		is(t, "Apart", apart, sum)
		is(t, "Apart", e, api.OK)
		sidesOfMatch(t, rules, a, b, best)
		sizes[len(best)]++
	}
	if sizes[3] < 100 || sizes[5] < 20 {
		t.Errorf("too few matchings of some size: %v", sizes)
	}
}

// sidesOfMatch says that News, Grown and Gone are what a match leaves.
func sidesOfMatch(t *testing.T, r api.Rules, a, b []api.Mark, l []api.Pairing) {
	t.Helper()
	var news, grown, gone []int
	for i := range a {
		if !slices.ContainsFunc(l, func(x api.Pairing) bool { return x.A == i }) {
			gone = append(gone, i)
		}
	}
	for j := range b {
		at := slices.IndexFunc(l, func(x api.Pairing) bool { return x.B == j })
		if at < 0 {
			news = append(news, j)
		} else if b[j].Size-a[l[at].A].Size > r.Slack {
			grown = append(grown, j)
		}
	}
	got, e := mark.News(somePanels(), r, a, b)
	same(t, "News", got, news)
	is(t, "News", e, api.OK)
	got, e = mark.Grown(somePanels(), r, a, b)
	same(t, "Grown", got, grown)
	is(t, "Grown", e, api.OK)
	got, e = mark.Gone(somePanels(), r, a, b)
	same(t, "Gone", got, gone)
	is(t, "Gone", e, api.OK)
}

// P5.2: as many marks as there can be, each of which can be each other one of its kind.
func TestMatchMost(t *testing.T) {
	p, a := most(0)
	_, b := most(1)
	r := api.Rules{Near: api.MaxSide, Slack: api.MaxSize}
	l, e := mark.Match(p, r, a, b)
	is(t, "most", e, api.OK)
	same(t, "most", l, many(api.MaxMarks, func(i int) api.Pairing { return api.Pairing{A: i, B: i} }))
	n, _ := mark.Apart(p, r, a, b, l)
	is(t, "apart", n, api.MaxMarks)
}

// P5.2
func TestNewsGrownGone(t *testing.T) {
	news, e := mark.News(panels(), rules(), older(), newer())
	same(t, "News", news, []int{2})
	is(t, "News", e, api.OK)
	grown, e := mark.Grown(panels(), rules(), older(), newer())
	same(t, "Grown", grown, []int{0, 3})
	is(t, "Grown", e, api.OK)
	gone, e := mark.Gone(panels(), rules(), older(), newer())
	same(t, "Gone", gone, []int{2})
	is(t, "Gone", e, api.OK)
	a := []api.Mark{put("door", dent, 10, 10, 10), put("door", dent, 200, 10, 10)}
	// By Slack, and by more than it; crossed, so that the numbers of b do not rise by A.
	b := []api.Mark{put("door", dent, 10, 10, 12), put("door", dent, 200, 10, 13)}
	grown, _ = mark.Grown(panels(), rules(), a, b)
	same(t, "more than Slack", grown, []int{1})
	a = []api.Mark{put("door", dent, 10, 10, 9), put("door", dent, 11, 10, 5)}
	b = []api.Mark{put("door", dent, 10, 10, 8), put("door", dent, 11, 10, 20)}
	l, _ := mark.Match(panels(), api.Rules{Near: 5}, a, b)
	same(t, "crossed", l, pairings(0, 1, 1, 0))
	grown, _ = mark.Grown(panels(), api.Rules{Near: 5}, a, b)
	same(t, "crossed", grown, []int{0, 1})
}

// P5.2
func TestApart(t *testing.T) {
	a := []api.Mark{put("door", dent, 10, 10, 5), put("door", dent, 15, 10, 5), put("door", dent, 110, 10, 5)}
	b := []api.Mark{put("door", dent, 10, 13, 5), put("door", dent, 17, 10, 5), put("door", dent, 18, 10, 2), put("hood", dent, 10, 10, 5)}
	cases := []struct {
		what string
		l    []api.Pairing
		want int
		e    api.Errno
	}{
		{"none", nil, 0, api.OK},
		{"one", pairings(0, 0), 9, api.OK},
		{"two", pairings(0, 0, 1, 1), 13, api.OK},
		{"not the best", pairings(0, 1, 1, 0), 83, api.OK},
		{"A below", pairings(-1, 0), 0, api.ErrNone},
		{"A above", pairings(3, 0), 0, api.ErrNone},
		{"B below", pairings(0, -1), 0, api.ErrNone},
		{"B above", pairings(0, 4), 0, api.ErrNone},
		{"least A", pairings(least, 0), 0, api.ErrNone},
		{"greatest B", pairings(0, greatest), 0, api.ErrNone},
		{"A again", pairings(0, 0, 0, 1), 0, api.ErrOrder},
		{"lesser A", pairings(1, 1, 0, 0), 0, api.ErrOrder},
		{"B again", pairings(0, 1, 1, 1), 0, api.ErrTwice},
		{"cannot be by its place", pairings(2, 0), 0, api.ErrRule},
		{"cannot be by its size", pairings(0, 2), 0, api.ErrRule},
		{"cannot be by its panel", pairings(0, 3), 0, api.ErrRule},
		{"none before order", pairings(1, 1, 0, 9), 0, api.ErrNone},
		{"order before twice", pairings(0, 0, 0, 0), 0, api.ErrOrder},
		{"twice before rule", pairings(0, 0, 2, 0), 0, api.ErrTwice},
		{"the first one that is wrong", pairings(0, 3, 9, 9), 0, api.ErrRule},
		{"twice of an earlier one", pairings(0, 0, 1, 1, 2, 0), 0, api.ErrTwice},
		{"very many", many(200_000, func(i int) api.Pairing { return api.Pairing{} }), 0, api.ErrOrder},
	}
	for _, c := range cases {
		n, e := mark.Apart(panels(), rules(), a, b, c.l)
		is(t, c.what, n, c.want)
		is(t, c.what, e, c.e)
	}
	wide := []api.Panel{{Key: "door", Width: api.MaxSide, Height: api.MaxSide}}
	far := many(api.MaxSame, func(i int) api.Mark { return put("door", dent, 0, i, 5) })
	away := many(api.MaxSame, func(i int) api.Mark { return put("door", dent, api.MaxSide-1, i, 5) })
	l, _ := mark.Match(wide, api.Rules{Near: api.MaxSide}, far, away)
	n, e := mark.Apart(wide, api.Rules{Near: api.MaxSide}, far, away, l)
	is(t, "farthest", n, api.MaxSame*(api.MaxSide-1)*(api.MaxSide-1))
	is(t, "farthest", e, api.OK)
}
