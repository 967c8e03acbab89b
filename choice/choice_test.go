package choice_test

import (
	"math"
	"slices"
	"testing"

	"standby/choice"
)

// remainder is x modulo n by its definition: the number from 0 to n - 1 that differs from x by a multiple of n.
func remainder(x, n int) int {
	for r := range n {
		// The remainder of the language has the sign of x.
		if x%n == r || x%n == r-n {
			return r
		}
	}
	return -1
}

func TestDecide(t *testing.T) {
	for n := 1; n < 12; n++ {
		list := []int{0, 1, n - 1, n, n + 1, 5 * n, -1, -n, -n - 1, -5*n + 1, math.MaxInt, math.MinInt, math.MinInt + 1}
		choices := choice.From(list)
		for i, x := range list {
			if got := choices.Decide(n); got != remainder(x, n) {
				t.Errorf("a decision among %d by the choice %d: got %d, want %d", n, x, got, remainder(x, n))
			}
			if left := choices.Left(); !slices.Equal(left, list[i+1:]) {
				t.Errorf("behind %d decisions: %v is left, want %v", i+1, left, list[i+1:])
			}
		}
		for range 3 {
			if got := choices.Decide(n); got != 0 || len(choices.Left()) > 0 {
				t.Errorf("a decision without choices: got %d, %v is left", got, choices.Left())
			}
		}
	}
	choices := choice.From([]int{math.MaxInt, -1})
	if got := choices.Decide(math.MaxInt); got != 0 {
		t.Errorf("a decision among the most possibilities: got %d", got)
	}
}

func TestChoicesAreCopied(t *testing.T) {
	list := []int{1, 2, 3, 4}
	choices := choice.From(list[:3])
	list[1] = 9
	first, left := choices.Decide(5), choices.Left()
	left[0] = 8
	other := choices.Left()
	if second := choices.Decide(5); first != 1 || second != 2 || !slices.Equal(other, []int{2, 3}) {
		t.Errorf("got the decisions %d and %d, and %v between them", first, second, other)
	}
	if !slices.Equal(list, []int{1, 9, 3, 4}) {
		t.Errorf("the list is modified: %v", list)
	}
}
