package mark_test

import (
	"cmp"
	"fmt"
	"math/rand"
	"slices"
	"strings"
	"testing"

	"forecourt/api"
	"forecourt/mark"
)

// is reports values that differ; lists go to same, for which an empty list is a nil one.
func is[T comparable](t *testing.T, what string, got, want T) {
	t.Helper()
	if got != want {
		t.Errorf("%s: got %v, want %v", what, got, want)
	}
}

func same[T comparable](t *testing.T, what string, got, want []T) {
	t.Helper()
	if !slices.Equal(got, want) {
		t.Errorf("%s: got %v, want %v", what, got, want)
	}
}

// sameLists is for lists of lists.
func sameLists(t *testing.T, what string, got, want [][]int) {
	t.Helper()
	if !slices.EqualFunc(got, want, slices.Equal[[]int]) {
		t.Errorf("%s: got %v, want %v", what, got, want)
	}
}

// A check is one of a list of some type, with what it has to say.
type check[T any] struct {
	what string
	l    []T
	want api.Errno
}

func runChecks[T any](t *testing.T, function func([]T) api.Errno, checks []check[T]) {
	t.Helper()
	for _, c := range checks {
		is(t, c.what, function(c.l), c.want)
	}
}

// many makes a list of so many elements from their numbers.
func many[T any](count int, element func(i int) T) []T {
	var l []T
	for i := range count {
		l = append(l, element(i))
	}
	return l
}

// key makes keys that are in the order of their numbers.
func key(i int) string { return fmt.Sprintf("k%05d", i) }

// The longest key, and one that is too long.
var (
	longKey   = strings.Repeat("k", api.MaxName)
	longerKey = strings.Repeat("k", api.MaxName+1)
)

const least, greatest = -1 << 63, 1<<63 - 1

// Kinds of marks, in short.
const (
	scratch = api.MarkScratch
	dent    = api.MarkDent
	chip    = api.MarkChip
	crack   = api.MarkCrack
)

func put(panel string, kind, x, y, size int) api.Mark {
	return api.Mark{Panel: panel, Kind: kind, X: x, Y: y, Size: size}
}

// sorted puts marks in order.
func sorted(l []api.Mark) []api.Mark {
	slices.SortFunc(l, func(a, b api.Mark) int {
		return cmp.Or(cmp.Compare(a.Panel, b.Panel), cmp.Compare(a.Kind, b.Kind), cmp.Compare(a.X, b.X), cmp.Compare(a.Y, b.Y), cmp.Compare(a.Size, b.Size))
	})
	return l
}

func panels() []api.Panel {
	return []api.Panel{{Key: "door", Width: 1000, Height: 800, Price: 5000}, {Key: "hood", Width: 1200, Height: 900, Price: 9000}, {Key: "roof", Width: 30, Height: 20, Price: 100}}
}

func rules() api.Rules { return api.Rules{Near: 20, Slack: 2, Join: 100, Part: 500} }

// older and newer are marks of two reports.
func older() []api.Mark {
	return []api.Mark{put("door", scratch, 100, 100, 10), put("door", scratch, 110, 100, 10), put("door", dent, 10, 10, 5), put("hood", crack, 700, 700, 300)}
}

func newer() []api.Mark {
	return []api.Mark{put("door", scratch, 108, 100, 13), put("door", scratch, 112, 116, 8), put("hood", scratch, 1, 1, 1), put("hood", crack, 705, 700, 310)}
}

// Values with one error each, which no other value of the tests has in the place where it is used.
func badRules() api.Rules { return api.Rules{Part: -1} }

func badPanels() []api.Panel { return []api.Panel{{Key: "Door"}} }

func badMarks() []api.Mark { return []api.Mark{put("door", 5, 1, 1, 1)} }

func fullMarks() []api.Mark {
	return many(api.MaxSame+1, func(i int) api.Mark { return put("door", dent, i, 0, 1) })
}

const (
	badRulesError  = api.ErrArg
	badPanelsError = api.ErrName
	badMarksError  = api.ErrKind
	fullMarksError = api.ErrFull
)

// somePanels are two panels on which few marks have room.
func somePanels() []api.Panel {
	return []api.Panel{{Key: "door", Width: 6, Height: 5, Price: 50}, {Key: "hood", Width: 5, Height: 6, Price: 90}}
}

func someRules(r *rand.Rand) api.Rules {
	return api.Rules{Near: r.Intn(7), Slack: r.Intn(5), Join: r.Intn(4), Part: r.Intn(1001)}
}

// someMarks makes marks of a few kinds on these panels, more of them scratches on the door.
func someMarks(r *rand.Rand, count int) []api.Mark {
	seen, same := map[api.Mark]bool{}, map[[2]int]int{}
	var l []api.Mark
	for range count {
		panel, kind := r.Intn(2)*r.Intn(2), 1+r.Intn(2)*r.Intn(2)
		p := somePanels()[panel]
		m := put(p.Key, kind, r.Intn(p.Width), r.Intn(p.Height), 1+r.Intn(5))
		if k := [2]int{panel, kind}; !seen[m] && same[k] < api.MaxSame {
			l = append(l, m)
			seen[m] = true
			same[k]++
		}
	}
	return sorted(l)
}

// most are panels with as many marks on them as there can be, each one near each other one of its kind.
func most(shift int) ([]api.Panel, []api.Mark) {
	p := many(3, func(i int) api.Panel { return api.Panel{Key: key(i), Width: 100, Height: 100, Price: 10} })
	l := many(api.MaxMarks, func(i int) api.Mark {
		group := i / api.MaxSame
		return put(key(group/4), 1+group%4, i%api.MaxSame*3+shift, i*7%50, 100)
	})
	return p, sorted(l)
}

// mustCheck is for tests that need what is right.
func mustCheck(t *testing.T, p []api.Panel, l []api.Mark) {
	t.Helper()
	if e := mark.CheckMarks(p, l); e != api.OK {
		t.Fatalf("the marks of the test have error %d: %v", e, l)
	}
}
