package estimator_test

import (
	"math"
	"testing"

	"standby/api"
	"standby/estimator"
)

// random returns numbers from 0 to n - 1 that look random.
func random(seed uint32) func(n int) int {
	return func(n int) int {
		seed = seed*1664525 + 1013904223
		return int(seed>>1) % n
	}
}

func of(samples, smoothed, variation, backoff int) api.Estimator {
	return api.Estimator{Samples: samples, Smoothed: smoothed, Variation: variation, Backoff: backoff}
}

// times are times, small, great and those between.
func times() []int {
	return []int{0, 1, 2, 3, 7, 8, 9, 10, 18, 63, 64, 65, 100, 1000, 8191, 65535, 65536, 65537, 1 << 29, api.MaxTime - 1, api.MaxTime}
}

// noTimes are numbers that are no times.
func noTimes() []int {
	return []int{math.MinInt, -api.MaxTime, -1, api.MaxTime + 1, math.MaxInt}
}

// wellFormed are estimators that are well-formed.
func wellFormed() []api.Estimator {
	var l []api.Estimator
	for backoff := range 13 {
		l = append(l, of(0, 0, 0, backoff))
		for _, samples := range []int{1, 2, 100, api.MaxTime - 1, api.MaxTime} {
			for _, smoothed := range append(times(), 15, 16, 17, 8*api.MaxTime-1, 8*api.MaxTime, 4*api.MaxTime) {
				for _, variation := range []int{0, 1, 2, 3, 4, 5, 17, 64, 65528, 65536, 65537, 3 * api.MaxTime, 8*api.MaxTime - 1, 8 * api.MaxTime} {
					l = append(l, of(samples, smoothed, variation, backoff))
				}
			}
		}
	}
	return l
}

// notWellFormed are estimators with one or more faults.
func notWellFormed() []api.Estimator {
	l := []api.Estimator{of(0, 1, 0, 0), of(0, 0, 1, 0), of(0, 8, 2, 3), of(0, 8*api.MaxTime, 8*api.MaxTime, 12)}
	for _, x := range noTimes() {
		l = append(l, of(x, 0, 0, 0), of(x, 80, 20, 1), of(x, x, x, x))
	}
	for _, x := range []int{math.MinInt, -1, -8, 8*api.MaxTime + 1, math.MaxInt} {
		l = append(l, of(5, x, 20, 1), of(5, 80, x, 1), of(0, x, 0, 1), of(0, 0, x, 1), of(api.MaxTime, x, x, 0))
	}
	for _, x := range []int{math.MinInt, -1, 13, 64, math.MaxInt} {
		l = append(l, of(5, 80, 20, x), of(0, 0, 0, x))
	}
	return l
}

func TestP281New(t *testing.T) {
	if e := estimator.New(); e != (api.Estimator{}) {
		t.Errorf("New: got %v", e)
	}
}

func TestP281Check(t *testing.T) {
	for _, e := range wellFormed() {
		if err := estimator.Check(e); err != api.OK {
			t.Errorf("Check of %v: got %d", e, err)
		}
	}
	for _, e := range notWellFormed() {
		if err := estimator.Check(e); err != api.ErrForm {
			t.Errorf("Check of %v: got %d", e, err)
		}
	}
}

// sampled is what Sample has to return for a well-formed estimator and a time, by the definitions.
func sampled(e api.Estimator, time int) api.Estimator {
	if e.Samples == 0 {
		return of(1, 8*time, 2*time, 0)
	}
	d := time - e.Smoothed/8
	distance := d
	if d < 0 {
		distance = -d
	}
	samples := e.Samples
	if samples < api.MaxTime {
		samples++
	}
	return of(samples, e.Smoothed+d, e.Variation-e.Variation/4+distance, 0)
}

func TestP281Sample(t *testing.T) {
	for _, e := range wellFormed() {
		for _, time := range times() {
			got, err := estimator.Sample(e, time)
			if want := sampled(e, time); err != api.OK || got != want {
				t.Errorf("Sample of %v and %d: got %v, %d, want %v", e, time, got, err, want)
			}
			if estimator.Check(got) != api.OK {
				t.Errorf("Sample of %v and %d: %v is not well-formed", e, time, got)
			}
		}
		for _, time := range noTimes() {
			if got, err := estimator.Sample(e, time); err != api.ErrTime || got != (api.Estimator{}) {
				t.Errorf("Sample of %v and %d: got %v, %d", e, time, got, err)
			}
		}
	}
	for _, e := range notWellFormed() {
		for _, time := range append(times(), noTimes()...) {
			if got, err := estimator.Sample(e, time); err != api.ErrForm || got != (api.Estimator{}) {
				t.Errorf("Sample of %v and %d: got %v, %d", e, time, got, err)
			}
		}
	}
}

func TestP282Expired(t *testing.T) {
	for _, e := range wellFormed() {
		want := e
		if e.Backoff < 12 {
			want.Backoff++
		}
		if got := estimator.Expired(e); got != want {
			t.Errorf("Expired of %v: got %v", e, got)
		}
	}
	for _, e := range notWellFormed() {
		if got := estimator.Expired(e); got != e {
			t.Errorf("Expired of %v: got %v", e, got)
		}
	}
}

// timeout is what Timeout has to return for a well-formed estimator, by the definitions.
func timeout(e api.Estimator) int {
	base := 64
	if e.Samples != 0 {
		mean := e.Smoothed / 8
		base = mean + e.Variation
		for _, least := range []int{2, mean + 1} {
			if base < least {
				base = least
			}
		}
	}
	doubled := base
	for range e.Backoff {
		doubled *= 2
	}
	switch {
	case doubled <= 65536:
		return doubled
	case base > 65536:
		return base
	default:
		return 65536
	}
}

func TestP282Timeout(t *testing.T) {
	for _, e := range wellFormed() {
		if got, want := estimator.Timeout(e), timeout(e); got != want {
			t.Errorf("Timeout of %v: got %d, want %d", e, got, want)
		}
	}
	for _, e := range notWellFormed() {
		if got := estimator.Timeout(e); got != 0 {
			t.Errorf("Timeout of %v: got %d", e, got)
		}
	}
}

func TestP282Mean(t *testing.T) {
	for _, e := range wellFormed() {
		if got := estimator.Mean(e); 8*got > e.Smoothed || e.Smoothed >= 8*got+8 {
			t.Errorf("Mean of %v: got %d", e, got)
		}
	}
	for _, e := range notWellFormed() {
		if got := estimator.Mean(e); got != 0 {
			t.Errorf("Mean of %v: got %d", e, got)
		}
	}
}

func TestP282Examples(t *testing.T) {
	expect := func(what string, got, want int) {
		t.Helper()
		if got != want {
			t.Errorf("%s: got %d, want %d", what, got, want)
		}
	}
	e := estimator.New()
	expect("Timeout without samples", estimator.Timeout(e), 64)
	expect("Timeout without samples behind Expired", estimator.Timeout(estimator.Expired(e)), 128)
	e, _ = estimator.Sample(e, 10)
	if e != of(1, 80, 20, 0) {
		t.Errorf("Sample of 10: got %v", e)
	}
	e, _ = estimator.Sample(e, 18)
	if e != of(2, 88, 23, 0) {
		t.Errorf("Sample of 18: got %v", e)
	}
	expect("Mean", estimator.Mean(e), 11)
	expect("Timeout", estimator.Timeout(e), 34)
	e = estimator.Expired(e)
	expect("Timeout behind Expired", estimator.Timeout(e), 68)
	e, _ = estimator.Sample(e, 11)
	expect("Timeout behind 11", estimator.Timeout(e), 29)
}

func TestP283Mean(t *testing.T) {
	next := random(1)
	for range 300 {
		most := 1 + []int{2, 10, 1000, 100000, api.MaxTime}[next(5)]
		e := estimator.New()
		least, greatest := api.MaxTime, 0
		for range 200 {
			time := next(most)
			if next(10) == 0 {
				time = []int{0, most - 1}[next(2)]
			}
			least, greatest = min(least, time), max(greatest, time)
			e, _ = estimator.Sample(e, time)
			if mean := estimator.Mean(e); mean < least || mean > greatest {
				t.Fatalf("Mean: got %d with samples from %d to %d", mean, least, greatest)
			}
			if estimator.Timeout(e) <= estimator.Mean(e) {
				t.Fatalf("Timeout of %v is %d", e, estimator.Timeout(e))
			}
		}
	}
}

func TestP283EqualSamples(t *testing.T) {
	samples := times()
	for i := range 10001 {
		if i%37 == 0 || i < 300 || i > 9990 {
			samples = append(samples, i)
		}
	}
	for _, time := range samples {
		e, _ := estimator.Sample(estimator.New(), time)
		for range 99 {
			before := estimator.Timeout(e)
			e, _ = estimator.Sample(e, time)
			if estimator.Mean(e) != time || estimator.Timeout(e) > before {
				t.Fatalf("samples of %d: Mean is %d, Timeout becomes %d behind %d", time, estimator.Mean(e), estimator.Timeout(e), before)
			}
		}
		if last := estimator.Timeout(e); time <= 10000 && last > time+3 {
			t.Errorf("100 samples of %d: Timeout is %d", time, last)
		}
	}
}

func TestP283Expired(t *testing.T) {
	for _, e := range wellFormed() {
		before, after := estimator.Timeout(e), estimator.Timeout(estimator.Expired(e))
		if before <= estimator.Mean(e) || after < before {
			t.Errorf("Timeout of %v is %d, and %d behind Expired", e, before, after)
		}
		if e.Backoff < 12 && 2*before <= 65536 && after != 2*before {
			t.Errorf("Timeout of %v is %d, and does not double but becomes %d", e, before, after)
		}
	}
}
