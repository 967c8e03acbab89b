package budget_test

import (
	"fmt"
	"math"
	"slices"
	"testing"

	"standby/api"
	"standby/budget"
)

// random returns numbers from 0 to n - 1 that look random.
func random(seed uint32) func(n int) int {
	return func(n int) int {
		seed = seed*1664525 + 1013904223
		return int(seed>>8) % n
	}
}

// expect reports an error if a value is not the wanted one. Nil and empty slices are equal.
func expect(t *testing.T, what string, got, want any) {
	t.Helper()
	if g, w := fmt.Sprint(got), fmt.Sprint(want); g != w {
		t.Errorf("%s: got %s, want %s", what, g, w)
	}
}

// of is a bucket.
func of(parent, rate, burst, tokens int) api.Bucket {
	return api.Bucket{Parent: parent, Rate: rate, Burst: burst, Tokens: tokens}
}

// at is a budget at a time.
func at(time int, l ...api.Bucket) api.Budget {
	return api.Budget{Time: time, Buckets: l}
}

// example is the budget of the examples, full.
func example() api.Budget {
	return at(0, of(-1, 10, 30, 30), of(0, 2, 8, 8), of(0, 9, 40, 40))
}

// copyOf is a copy of a budget that shares no memory with it.
func copyOf(b api.Budget) api.Budget {
	b.Buckets = slices.Clone(b.Buckets)
	return b
}

// chain are n buckets, each the parent of the next one.
func chain(n int) []api.Bucket {
	var l []api.Bucket
	for i := range n {
		l = append(l, of(i-1, i, 2*i+1, i))
	}
	return l
}

// randomBudget is a budget in order; its numbers are small ones, or great is true.
func randomBudget(next func(int) int, great bool) api.Budget {
	b := at(next(20))
	number := func() int { return next(12) }
	if great {
		b.Time = []int{0, 5, 1 << 29, api.MaxTime - 3, api.MaxTime - 1, api.MaxTime}[next(6)]
		number = func() int { return []int{0, 1, 2, 7, 1 << 29, api.MaxTime - 1, api.MaxTime}[next(7)] }
	}
	for i := range next(8) {
		burst := number()
		b.Buckets = append(b.Buckets, of(max(next(i+1), next(i+1))-1, number(), burst, min(burst, number())))
	}
	return b
}

// budgets are budgets that are in order.
func budgets() []api.Budget {
	most := of(-1, api.MaxTime, api.MaxTime, api.MaxTime)
	l := []api.Budget{
		{},
		at(api.MaxTime),
		example(),
		at(3, of(-1, 0, 0, 0)),
		at(0, most),
		at(api.MaxTime, most),
		at(0, of(-1, api.MaxTime, api.MaxTime, 0)),
		at(7, chain(64)...),
		at(7, slices.Repeat([]api.Bucket{of(-1, 3, 9, 4)}, 64)...),
	}
	next := random(1)
	for i := range 600 {
		l = append(l, randomBudget(next, i%2 == 1))
	}
	return l
}

// noTimes are numbers that are no times.
func noTimes() []int {
	return []int{math.MinInt, -api.MaxTime, -1, api.MaxTime + 1, math.MaxInt}
}

// wrongBudget is a budget that is not in order, with its error. If the fault is in the time or in tokens, New does not see it.
type wrongBudget struct {
	err    api.Errno
	budget api.Budget
	unseen bool
}

// wrongBudgets are budgets that are not in order; where there are several faults, the error is that of the first one.
func wrongBudgets() []wrongBudget {
	good, deep := of(-1, 1, 1, 1), chain(64)
	deep[62].Tokens = deep[62].Burst + 1
	l := []wrongBudget{
		{err: api.ErrMany, budget: at(0, chain(65)...)},
		{err: api.ErrMany, budget: at(-1, slices.Repeat([]api.Bucket{of(5, -1, -1, -1)}, 65)...)},
		{err: api.ErrMany, budget: at(api.MaxTime+1, chain(1000)...)},
		// The faults of a bucket, in their order, and those of the first bucket that has one.
		{err: api.ErrNone, budget: at(0, of(0, 1, 1, 1))},
		{err: api.ErrNone, budget: at(0, of(1, 1, 1, 1), good)},
		{err: api.ErrNone, budget: at(0, good, of(1, 1, 1, 1))},
		{err: api.ErrNone, budget: at(0, good, of(2, 1, 1, 1), good)},
		{err: api.ErrNone, budget: at(0, of(-2, 1, 1, 1))},
		{err: api.ErrNone, budget: at(0, of(math.MinInt, 1, 1, 1))},
		{err: api.ErrNone, budget: at(0, of(math.MaxInt, 1, 1, 1))},
		{err: api.ErrNone, budget: at(0, of(0, -1, -1, -1))},
		{err: api.ErrNone, budget: at(0, of(0, 1, 1, 1), of(-1, -1, 1, 1))},
		{err: api.ErrRange, budget: at(0, of(-1, -1, 1, 1), of(5, 1, 1, 1))},
		{err: api.ErrRange, budget: at(0, of(-1, 0, -1, -1))},
		{err: api.ErrRange, budget: at(0, of(-1, 0, -1, 0))},
		{err: api.ErrRange, budget: at(0, good, of(0, 0, api.MaxTime+1, 0))},
		{err: api.ErrRange, budget: at(0, deep...), unseen: true},
		{err: api.ErrRange, budget: at(0, good, of(0, 0, 0, 1)), unseen: true},
		{err: api.ErrRange, budget: at(0, of(-1, 0, api.MaxTime, api.MaxTime+1)), unseen: true},
	}
	for _, x := range noTimes() {
		l = append(l, wrongBudget{err: api.ErrTime, budget: at(x), unseen: true}, wrongBudget{err: api.ErrTime, budget: at(x, of(3, x, x, x)), unseen: true})
		l = append(l, wrongBudget{err: api.ErrRange, budget: at(0, of(-1, x, 1, 1))}, wrongBudget{err: api.ErrRange, budget: at(0, good, of(-1, 1, x, 0))}, wrongBudget{err: api.ErrRange, budget: at(0, of(-1, 1, 5, x)), unseen: true})
	}
	return l
}

func TestP301New(t *testing.T) {
	for _, b := range budgets() {
		for _, tokens := range []int{0, 1, -1, math.MinInt, math.MaxInt} {
			l, want := slices.Clone(b.Buckets), copyOf(b)
			want.Time = 0
			for i := range l {
				l[i].Tokens += tokens
				want.Buckets[i].Tokens = l[i].Burst
			}
			got, err := budget.New(l)
			expect(t, "New", []any{got, err}, []any{want, api.OK})
		}
	}
	for i, w := range wrongBudgets() {
		got, err := budget.New(w.budget.Buckets)
		if !w.unseen {
			expect(t, fmt.Sprint("New of wrong buckets ", i), []any{got, err}, []any{api.Budget{}, w.err})
		}
	}
	_, err := budget.New(chain(64))
	expect(t, "New of 64 buckets", err, api.OK)
	_, err = budget.New([]api.Bucket{of(7, 1, 1, 1)})
	expect(t, "New of a bucket without its parent", err, api.ErrNone)
}

func TestP301Check(t *testing.T) {
	for _, b := range budgets() {
		expect(t, fmt.Sprint("Check of ", b), budget.Check(b), api.OK)
	}
	for i, w := range wrongBudgets() {
		expect(t, fmt.Sprint("Check of wrong budget ", i), budget.Check(w.budget), w.err)
	}
}

// checked is the error of a budget, by the definition.
func checked(b api.Budget) api.Errno {
	if len(b.Buckets) >= 65 {
		return api.ErrMany
	}
	if b.Time < 0 || b.Time > api.MaxTime {
		return api.ErrTime
	}
	for i, x := range b.Buckets {
		if x.Parent < -1 || x.Parent >= i {
			return api.ErrNone
		}
		for _, n := range []int{x.Rate, x.Burst, x.Tokens} {
			if n < 0 || n > api.MaxTime {
				return api.ErrRange
			}
		}
		if x.Tokens > x.Burst {
			return api.ErrRange
		}
	}
	return api.OK
}

func TestP301CheckRandomBudgets(t *testing.T) {
	next := random(2)
	var seen [api.ErrStop + 1]int
	for i := range 30000 {
		b := randomBudget(next, i%2 == 0)
		for range next(3) {
			fault := []int{-2, -1, 0, 5, 12, api.MaxTime, api.MaxTime + 1, math.MinInt, math.MaxInt}[next(9)]
			if len(b.Buckets) == 0 || next(9) == 0 {
				b.Time = fault
				continue
			}
			x := &b.Buckets[next(len(b.Buckets))]
			*[]*int{&x.Parent, &x.Rate, &x.Burst, &x.Tokens}[next(4)] = fault
		}
		want := checked(b)
		seen[want]++
		if got := budget.Check(b); got != want {
			t.Errorf("Check of %v: got %d, want %d", b, got, want)
		}
	}
	for _, err := range []api.Errno{api.OK, api.ErrTime, api.ErrNone, api.ErrRange} {
		if seen[err] < 500 {
			t.Errorf("the error %d was found %d times", err, seen[err])
		}
	}
}

// advanced is a budget after some ticks, by the definition: tick by tick.
func advanced(b api.Budget, ticks int) api.Budget {
	b = copyOf(b)
	b.Time += ticks
	for i := range b.Buckets {
		x := &b.Buckets[i]
		for range ticks {
			x.Tokens = min(x.Tokens+x.Rate, x.Burst)
		}
	}
	return b
}

func TestP301Advance(t *testing.T) {
	for _, b := range budgets() {
		for _, ticks := range []int{0, 1, 2, 3, 7, 50} {
			got, err := budget.Advance(b, b.Time+ticks)
			if b.Time+ticks > api.MaxTime {
				expect(t, "Advance beyond all times", []any{got, err}, []any{api.Budget{}, api.ErrTime})
			} else {
				expect(t, fmt.Sprint("Advance of ", b), []any{got, err}, []any{advanced(b, ticks), api.OK})
			}
		}
		for _, now := range append(noTimes(), b.Time-1) {
			got, err := budget.Advance(b, now)
			expect(t, fmt.Sprint("Advance of ", b, " to ", now), []any{got, err}, []any{api.Budget{}, api.ErrTime})
		}
	}
	for _, w := range wrongBudgets() {
		for _, now := range append(noTimes(), 0, w.budget.Time, api.MaxTime) {
			got, err := budget.Advance(w.budget, now)
			expect(t, "Advance of a wrong budget", []any{got, err}, []any{api.Budget{}, w.err})
		}
	}
}

func TestP301AdvanceFar(t *testing.T) {
	m := api.MaxTime
	b := at(0, of(-1, m, m, 0), of(0, 0, m, 5), of(0, 1, m, 0), of(2, 1, m-1, 0), of(2, m, 3, 0), of(4, 1, m, m))
	after, err := budget.Advance(b, m)
	expect(t, "Advance to the last time", []any{after, err}, []any{at(m, of(-1, m, m, m), of(0, 0, m, 5), of(0, 1, m, m), of(2, 1, m-1, m-1), of(2, m, 3, 3), of(4, 1, m, m)), api.OK})
	after, err = budget.Advance(b, m-2)
	expect(t, "Advance to an earlier time", []any{after, err}, []any{at(m-2, of(-1, m, m, m), of(0, 0, m, 5), of(0, 1, m, m-2), of(2, 1, m-1, m-2), of(2, m, 3, 3), of(4, 1, m, m)), api.OK})
}

// pathOf are the buckets from a bucket on upwards, by the definition.
func pathOf(b api.Budget, bucket int) []int {
	if bucket == -1 {
		return nil
	}
	return append([]int{bucket}, pathOf(b, b.Buckets[bucket].Parent)...)
}

// available is what is available at a bucket, by the definition.
func available(b api.Budget, bucket int) int {
	var l []int
	for _, i := range pathOf(b, bucket) {
		l = append(l, b.Buckets[i].Tokens)
	}
	return slices.Min(l)
}

// numbers are the numbers of tokens that are tried: those of the buckets, and those beside them.
func numbers(b api.Budget) []int {
	l := []int{0, 1, 2, 3, api.MaxTime - 1, api.MaxTime, api.MaxTime + 1, math.MaxInt - 1, math.MaxInt}
	for _, x := range b.Buckets {
		l = append(l, max(x.Tokens-1, 0), x.Tokens, x.Tokens+1, max(x.Burst-1, 0), x.Burst, x.Burst+1)
	}
	return l
}

// noBuckets are numbers without a bucket.
func noBuckets(b api.Budget) []int {
	return []int{math.MinInt, -2, -1, len(b.Buckets), len(b.Buckets) + 1, math.MaxInt}
}

func TestP302Available(t *testing.T) {
	for _, b := range budgets() {
		for bucket := range b.Buckets {
			got, err := budget.Available(b, bucket)
			expect(t, fmt.Sprint("Available of ", b, " at ", bucket), []any{got, err}, []any{available(b, bucket), api.OK})
		}
		for _, bucket := range noBuckets(b) {
			got, err := budget.Available(b, bucket)
			expect(t, "Available at no bucket", []any{got, err}, []any{0, api.ErrNone})
		}
	}
}

// taken is a budget from whose bucket tokens were taken, which are there, by the definition.
func taken(b api.Budget, bucket, n int) api.Budget {
	b = copyOf(b)
	for _, i := range pathOf(b, bucket) {
		b.Buckets[i].Tokens -= n
	}
	return b
}

func TestP302Take(t *testing.T) {
	for _, b := range budgets()[:300] {
		for bucket := range b.Buckets {
			most := available(b, bucket)
			for _, n := range append(numbers(b), most, most+1) {
				got, err := budget.Take(b, bucket, n)
				if n > most {
					expect(t, fmt.Sprint("Take of ", n, " from ", b, " at ", bucket), []any{got, err}, []any{api.Budget{}, api.ErrCredit})
				} else {
					expect(t, fmt.Sprint("Take of ", n, " from ", b, " at ", bucket), []any{got, err}, []any{taken(b, bucket, n), api.OK})
				}
			}
			for _, n := range []int{-1, math.MinInt} {
				got, err := budget.Take(b, bucket, n)
				expect(t, "Take of a negative number", []any{got, err}, []any{api.Budget{}, api.ErrArg})
			}
		}
		for _, bucket := range noBuckets(b) {
			for _, n := range []int{0, 1, -1, math.MaxInt} {
				got, err := budget.Take(b, bucket, n)
				expect(t, "Take at no bucket", []any{got, err}, []any{api.Budget{}, api.ErrNone})
			}
		}
	}
}

// wait is the first of some ticks after which n tokens are available at a bucket, or -1, by the definition.
func wait(b api.Budget, bucket, n, most int) int {
	for ticks := range most + 1 {
		if available(advanced(b, ticks), bucket) >= n {
			return ticks
		}
	}
	return -1
}

// whenOf is the first time at which n tokens are available at a bucket of small numbers, or the error, by the definition.
func whenOf(b api.Budget, bucket, n int) (int, api.Errno) {
	// Buckets of which none contains more than 130 do not change any more after so many ticks.
	ticks := wait(b, bucket, n, 130)
	if ticks < 0 || b.Time+ticks > api.MaxTime {
		return 0, api.ErrBound
	}
	return b.Time + ticks, api.OK
}

func TestP302When(t *testing.T) {
	next := random(3)
	l := []api.Budget{example(), at(api.MaxTime, example().Buckets...), at(3, of(-1, 0, 0, 0)), at(7, chain(64)[:4]...)}
	for range 250 {
		b := randomBudget(next, false)
		if next(3) == 0 {
			b.Time = api.MaxTime - next(12)
		}
		l = append(l, b)
	}
	later, never := 0, 0
	for _, b := range l {
		for bucket := range b.Buckets {
			for n := range 14 {
				want, wanted := whenOf(b, bucket, n)
				got, err := budget.When(b, bucket, n)
				expect(t, fmt.Sprint("When of ", n, " at ", bucket, " of ", b), []any{got, err}, []any{want, wanted})
				if wanted == api.ErrBound {
					never++
				} else if want > b.Time {
					later++
				}
			}
		}
	}
	if later < 500 || never < 500 {
		t.Errorf("tokens are there later %d times, and never %d times", later, never)
	}
}

// TestP302WhenOfGreatNumbers compares with what is available at the time and one tick before.
func TestP302WhenOfGreatNumbers(t *testing.T) {
	later := 0
	for _, b := range budgets() {
		for bucket := range b.Buckets {
			for _, n := range numbers(b) {
				when, err := budget.When(b, bucket, n)
				enough := func(time int) bool {
					x, err := budget.Advance(b, time)
					return err == api.OK && available(x, bucket) >= n
				}
				switch {
				case err == api.OK && (!enough(when) || when > b.Time && enough(when-1)):
					t.Errorf("When of %d at %d of %v: got %d", n, bucket, b, when)
				case err != api.OK && (err != api.ErrBound || when != 0 || enough(api.MaxTime)):
					t.Errorf("When of %d at %d of %v: got %d, %d", n, bucket, b, when, err)
				case when > b.Time:
					later++
				}
			}
		}
	}
	if later < 1000 {
		t.Errorf("tokens are there later %d times", later)
	}
}

func TestP302WhenBounds(t *testing.T) {
	m := api.MaxTime
	for _, e := range []struct {
		what      string
		b         api.Budget
		bucket, n int
		want      int
		err       api.Errno
	}{
		{"no tokens", at(5, of(-1, 0, 0, 0)), 0, 0, 5, api.OK},
		{"what is there, without a rate", at(5, of(-1, 0, 9, 4)), 0, 4, 5, api.OK},
		{"more, without a rate", at(5, of(-1, 0, 9, 4)), 0, 5, 0, api.ErrBound},
		{"what the burst allows", at(5, of(-1, 1, 9, 4)), 0, 9, 10, api.OK},
		{"more than the burst allows", at(5, of(-1, 1, 9, 4)), 0, 10, 0, api.ErrBound},
		{"a tick that brings more than is needed", at(5, of(-1, 4, 9, 0)), 0, 5, 7, api.OK},
		{"whole ticks", at(5, of(-1, 4, 9, 0)), 0, 8, 7, api.OK},
		{"the slower one of two", at(0, of(-1, 1, 90, 0), of(0, 5, 90, 0)), 1, 10, 10, api.OK},
		{"the slower one below", at(0, of(-1, 5, 90, 0), of(0, 1, 90, 0)), 1, 10, 10, api.OK},
		{"the parent alone", at(0, of(-1, 5, 90, 0), of(0, 1, 90, 0)), 0, 10, 2, api.OK},
		{"a parent that never has so many", at(0, of(-1, 5, 9, 9), of(0, 1, 90, 90)), 1, 10, 0, api.ErrBound},
		{"a parent of the parent without a rate", at(0, of(-1, 0, 90, 9), of(0, 1, 90, 90), of(1, 1, 90, 90)), 2, 10, 0, api.ErrBound},
		{"another bucket without a rate", at(0, of(-1, 5, 90, 90), of(0, 0, 90, 0), of(0, 1, 90, 90)), 2, 10, 0, api.OK},
		{"the last time", at(m-3, of(-1, 1, 9, 0)), 0, 3, m, api.OK},
		{"behind the last time", at(m-3, of(-1, 1, 9, 0)), 0, 4, 0, api.ErrBound},
		{"at the last time", at(m, of(-1, 1, 9, 4)), 0, 4, m, api.OK},
		{"behind the last time, with a rate", at(m, of(-1, m, 9, 4)), 0, 5, 0, api.ErrBound},
		{"all ticks", at(0, of(-1, 1, m, 0)), 0, m, m, api.OK},
		{"more than all ticks", at(1, of(-1, 1, m, 0)), 0, m, 0, api.ErrBound},
		{"one tick", at(0, of(-1, m, m, 0)), 0, m, 1, api.OK},
		{"the greatest number", at(0, of(-1, m, m, m)), 0, math.MaxInt, 0, api.ErrBound},
		{"a negative number", at(0, of(-1, m, m, m)), 0, -1, 0, api.ErrArg},
		{"the least number", at(0, of(-1, 0, 0, 0)), 0, math.MinInt, 0, api.ErrArg},
		{"no bucket", at(0), 0, 0, 0, api.ErrNone},
		{"no bucket and a negative number", at(0, of(-1, 1, 1, 1)), 1, -1, 0, api.ErrNone},
		{"a negative bucket", at(0, of(-1, 1, 1, 1)), -1, 1, 0, api.ErrNone},
	} {
		got, err := budget.When(e.b, e.bucket, e.n)
		expect(t, e.what, []any{got, err}, []any{e.want, e.err})
	}
}

func TestP302WrongBudgets(t *testing.T) {
	for _, w := range wrongBudgets() {
		for _, bucket := range []int{0, -1, 1000} {
			for _, n := range []int{0, 1, -1} {
				got, err := budget.Available(w.budget, bucket)
				expect(t, "Available of a wrong budget", []any{got, err}, []any{0, w.err})
				after, err := budget.Take(w.budget, bucket, n)
				expect(t, "Take from a wrong budget", []any{after, err}, []any{api.Budget{}, w.err})
				got, err = budget.When(w.budget, bucket, n)
				expect(t, "When of a wrong budget", []any{got, err}, []any{0, w.err})
			}
		}
	}
}

func TestP302Examples(t *testing.T) {
	b, err := budget.New([]api.Bucket{of(-1, 10, 30, 0), of(0, 2, 8, 0), of(0, 9, 40, 0)})
	expect(t, "New", []any{b, err}, []any{example(), api.OK})
	all := func() []int {
		var l []int
		for i := range 3 {
			n, err := budget.Available(b, i)
			expect(t, "Available", err, api.OK)
			l = append(l, n)
		}
		return l
	}
	expect(t, "Available", all(), []int{30, 8, 30})
	b, err = budget.Take(b, 2, 25)
	expect(t, "Take", err, api.OK)
	expect(t, "Available behind Take", all(), []int{5, 5, 5})
	when, err := budget.When(b, 1, 6)
	expect(t, "When", []any{when, err}, []any{1, api.OK})
	b, err = budget.Advance(b, 8)
	expect(t, "Advance", []any{b, err}, []any{at(8, of(-1, 10, 30, 30), of(0, 2, 8, 8), of(0, 9, 40, 40)), api.OK})
}

// TestP303Intervals takes as much as is possible, in all ways that come up, and counts what passes through each bucket.
func TestP303Intervals(t *testing.T) {
	next := random(5)
	for range 300 {
		b := randomBudget(next, false)
		if len(b.Buckets) == 0 {
			continue
		}
		b, _ = budget.New(b.Buckets)
		// For each bucket the tokens that have passed through it before each tick.
		passed := make([][]int, len(b.Buckets))
		sums := make([]int, len(b.Buckets))
		for time := range 25 {
			after, err := budget.Advance(b, time)
			expect(t, "Advance", err, api.OK)
			b = after
			for i, n := range sums {
				passed[i] = append(passed[i], n)
			}
			for range next(6) {
				bucket, n := next(len(b.Buckets)), next(9)
				if after, err := budget.Take(b, bucket, n); err == api.OK {
					b = after
					for _, i := range pathOf(b, bucket) {
						sums[i] += n
					}
				}
			}
		}
		for i, x := range b.Buckets {
			l := append(passed[i], sums[i])
			for from := range l {
				for to := from + 1; to < len(l); to++ {
					// In the ticks from from to to - 1 there are to - 1 - from steps of the time.
					if most := x.Burst + x.Rate*(to-1-from); l[to]-l[from] > most {
						t.Errorf("%d tokens pass bucket %d of %v in %d ticks", l[to]-l[from], i, b, to-1-from)
					}
				}
			}
		}
	}
}

func TestP303SeveralSteps(t *testing.T) {
	next := random(7)
	for _, b := range budgets() {
		last := min(b.Time+next(40), api.MaxTime)
		if next(4) == 0 {
			last = api.MaxTime
		}
		want, err := budget.Advance(b, last)
		expect(t, "Advance at once", err, api.OK)
		for b.Time < last {
			after, err := budget.Advance(b, min(last, b.Time+1+next(9)*(1+(last-b.Time)/30)))
			expect(t, "Advance by a step", err, api.OK)
			b = after
		}
		expect(t, "the budget after several steps", b, want)
	}
}

func TestP303AnyOrder(t *testing.T) {
	next := random(9)
	both := 0
	for range 20000 {
		b := randomBudget(next, next(4) == 0)
		if len(b.Buckets) == 0 {
			continue
		}
		i, k, n, m := next(len(b.Buckets)), next(len(b.Buckets)), next(7), next(7)
		first, err := budget.Take(b, i, n)
		if err != api.OK {
			continue
		}
		second, err := budget.Take(first, k, m)
		if err != api.OK {
			continue
		}
		both++
		other, err := budget.Take(b, k, m)
		expect(t, "Take of the second one first", err, api.OK)
		other, err = budget.Take(other, i, n)
		expect(t, "Take in the other order", []any{other, err}, []any{second, api.OK})
	}
	if both < 2000 {
		t.Errorf("two buckets could take %d times", both)
	}
}

// argument is a budget with spare capacity.
func argument() api.Budget {
	b := at(3, of(-1, 2, 9, 4), of(0, 3, 8, 5), of(7, 7, 7, 7), of(9, 9, 9, 9))
	b.Buckets = b.Buckets[:2]
	return b
}

func TestValues(t *testing.T) {
	results := func(b api.Budget) []api.Budget {
		full, _ := budget.New(b.Buckets)
		later, _ := budget.Advance(b, 4)
		same, _ := budget.Advance(b, 3)
		less, _ := budget.Take(b, 1, 2)
		none, _ := budget.Take(b, 1, 0)
		budget.When(b, 1, 7)
		budget.Available(b, 1)
		budget.Take(b, 1, 5)
		return []api.Budget{full, later, same, less, none}
	}
	b, want := argument(), results(argument())
	got := results(b)
	expect(t, "the argument", b.Buckets[:4], argument().Buckets[:4])
	spoil := func(b api.Budget) {
		for i := range b.Buckets[:cap(b.Buckets)] {
			b.Buckets[:cap(b.Buckets)][i] = of(77, 77, 77, 77)
		}
	}
	spoil(b)
	expect(t, "the results after a change of the argument", got, want)
	for i := range got {
		expect(t, "a result after a change of others", got[i], want[i])
		spoil(got[i])
	}
}
