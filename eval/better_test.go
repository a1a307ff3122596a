package eval

import (
	"math"
	"testing"

	"secateur/inst"
)

// P12.2: Better

func TestBetter(t *testing.T) {
	rising := []int64{math.MinInt64, math.MinInt64 + 1, -1 << 32, -2, -1, 0, 1, 2, 1 << 32, math.MaxInt64 - 1, math.MaxInt64}
	for m, a := range rising {
		for n, b := range rising {
			for k, want := range map[inst.Kind]bool{
				inst.Knapsack: m > n, inst.Assignment: m < n, inst.Tsp: m < n, inst.Cover: m < n,
				-1: false, -2: false, inst.Kinds: false, inst.Kinds + 1: false, math.MinInt: false, math.MaxInt: false,
			} {
				if Better(k, a, b) != want {
					t.Errorf("P12.2: Better(%d, %d, %d) is %t", k, a, b, !want)
				}
			}
		}
	}
}
