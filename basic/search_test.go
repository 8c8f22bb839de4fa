package basic_test

import (
	"slices"
	"testing"

	"forecourt/basic"
)

// A table has what a choice costs at each place; below 0, it is not permitted there.
type table [][]int

func (t table) step(before []int, choice int) (int, bool) {
	cost := t[len(before)][choice]
	return cost, cost >= 0
}

func TestCheapest(t *testing.T) {
	cases := []struct {
		what    string
		table   table
		choices int
		want    []int
		cost    int
		ok      bool
	}{
		{"no places", nil, 3, nil, 0, true},
		{"no places, no choices", nil, 0, nil, 0, true},
		{"no choices", table{{}}, 0, nil, 0, false},
		{"one", table{{5, 3, 4}}, 3, []int{1}, 3, true},
		{"the first of equal ones", table{{5, 3, 3}}, 3, []int{1}, 3, true},
		{"all at no cost", table{{0, 0}, {0, 0}}, 2, []int{0, 0}, 0, true},
		{"at each place", table{{5, 3}, {1, 2}, {9, 8}}, 2, []int{1, 0, 1}, 12, true},
		{"what is not permitted", table{{-1, 3}, {-1, 2}}, 2, []int{1, 1}, 5, true},
		{"nothing is permitted", table{{1, 3}, {-1, -1}}, 2, nil, 0, false},
	}
	for _, c := range cases {
		list, cost, ok := basic.Cheapest(len(c.table), c.choices, c.table.step)
		if !slices.Equal(list, c.want) || cost != c.cost || ok != c.ok {
			t.Errorf("%s: %v, %d, %t", c.what, list, cost, ok)
		}
	}
}

// What a choice costs depends on those before it: a cheap one can be dear in the end, and of equal lists the least one is taken.
func TestCheapestByTheOnesBefore(t *testing.T) {
	apart := func(before []int, choice int) (int, bool) {
		if slices.Contains(before, choice) {
			return 0, false
		}
		if len(before) == 0 {
			return choice, true
		}
		step := choice - before[len(before)-1]
		return step * step, true
	}
	for long, want := range map[int][]int{1: {0}, 2: {0, 1}, 3: {0, 1, 2}, 4: {0, 1, 2, 3}} {
		if list, cost, ok := basic.Cheapest(long, 4, apart); !slices.Equal(list, want) || cost != long-1 || !ok {
			t.Errorf("%d: %v, %d, %t", long, list, cost, ok)
		}
	}
	if list, _, ok := basic.Cheapest(5, 4, apart); ok || len(list) != 0 {
		t.Errorf("there are only four choices: %v", list)
	}
	trap := func(before []int, choice int) (int, bool) {
		if len(before) == 0 {
			return choice, true
		}
		return 5 - 3*before[0], true
	}
	if list, cost, ok := basic.Cheapest(2, 2, trap); !slices.Equal(list, []int{1, 0}) || cost != 3 || !ok {
		t.Errorf("the first choice costs more behind it: %v, %d, %t", list, cost, ok)
	}
}
