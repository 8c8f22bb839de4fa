package basic_test

import (
	"math"
	"testing"

	"forecourt/api"
	"forecourt/basic"
)

func TestWithin(t *testing.T) {
	for _, n := range []int{-1, 0, 3} {
		if !basic.Within(n, -1, 3) {
			t.Errorf("%d is from -1 to 3", n)
		}
	}
	for _, n := range []int{math.MinInt, -2, 4, math.MaxInt} {
		if basic.Within(n, -1, 3) {
			t.Errorf("%d is not from -1 to 3", n)
		}
	}
}

func TestBegun(t *testing.T) {
	for n, want := range map[int]int{0: 0, 1: 1, 59: 1, 60: 1, 61: 2, 120: 2, 121: 3} {
		if got := basic.Begun(n, basic.HourLong); got != want {
			t.Errorf("%d minutes: %d hours", n, got)
		}
	}
}

func TestLowest(t *testing.T) {
	const large = 1_000_000_000_000_000_000
	for f, want := range map[[2]int]api.Fraction{
		{0, 1}:             {Num: 0, Den: 1},
		{0, 100}:           {Num: 0, Den: 1},
		{1, 1}:             {Num: 1, Den: 1},
		{7, 7}:             {Num: 1, Den: 1},
		{6, 4}:             {Num: 3, Den: 2},
		{4, 6}:             {Num: 2, Den: 3},
		{5, 7}:             {Num: 5, Den: 7},
		{large / 4, large}: {Num: 1, Den: 4},
		{large - 1, large}: {Num: large - 1, Den: large},
	} {
		if got := basic.Lowest(f[0], f[1]); got != want {
			t.Errorf("Lowest of %v is %v", f, got)
		}
	}
}
