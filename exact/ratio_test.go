package exact_test

import (
	"math"
	"math/big"
	"slices"
	"testing"

	"warehouse/api"
	"warehouse/exact"
)

// ratio returns the ratio n / d.
func ratio(n, d int) api.Ratio { return api.Ratio{Num: n, Den: d} }

// ratios returns well-formed ratios: all with small parts, and those at the
// limits.
func ratios() []api.Ratio {
	var l []api.Ratio
	nums := []int{-most, 1 - most, -most / 2, -6, -5, -4, -3, -2, -1, 0, 1, 2, 3, 4, 5, 6, most / 2, most - 1, most}
	for _, d := range []int{1, 2, 3, 4, 5, 6, most / 2, most - 2, most - 1, most} {
		for _, n := range nums {
			l = append(l, ratio(n, d))
		}
	}
	return l
}

// malformed returns ratios that are not well-formed.
func malformed() []api.Ratio {
	var l []api.Ratio
	for _, n := range larges() {
		l = append(l, ratio(n, 1), ratio(n, 2), ratio(n, most), ratio(n, n), ratio(n, 0))
		l = append(l, ratio(0, n), ratio(1, n), ratio(-1, n), ratio(most, n))
	}
	for _, n := range []int{-most, -1, 0, 1, most} {
		l = append(l, ratio(n, 0), ratio(n, -1), ratio(n, -2), ratio(n, -most))
	}
	return l
}

// fraction returns the value of a well-formed ratio.
func fraction(r api.Ratio) *big.Rat { return big.NewRat(int64(r.Num), int64(r.Den)) }

// P2.4: the chapter's example 3, signs, common divisors and the limits.
func TestReduce(t *testing.T) {
	for _, x := range []struct{ r, s api.Ratio }{
		{ratio(-6, 4), ratio(-3, 2)},
		{ratio(6, 4), ratio(3, 2)},
		{ratio(4, 6), ratio(2, 3)},
		{ratio(5, 3), ratio(5, 3)},
		{ratio(-5, 3), ratio(-5, 3)},
		{ratio(6, 3), ratio(2, 1)},
		{ratio(-6, 3), ratio(-2, 1)},
		{ratio(3, 6), ratio(1, 2)},
		{ratio(36, 48), ratio(3, 4)},
		{ratio(0, 1), ratio(0, 1)},
		{ratio(0, 7), ratio(0, 1)},
		{ratio(0, most), ratio(0, 1)},
		{ratio(1, 1), ratio(1, 1)},
		{ratio(1, most), ratio(1, most)},
		{ratio(-1, most), ratio(-1, most)},
		{ratio(most, 1), ratio(most, 1)},
		{ratio(most, most), ratio(1, 1)},
		{ratio(-most, most), ratio(-1, 1)},
		{ratio(most, most-1), ratio(most, most-1)},
		{ratio(most-1, most), ratio(most-1, most)},
		{ratio(-most, 2), ratio(-most/2, 1)},
		{ratio(most-2, most), ratio(most/2-1, most/2)},
		{ratio(832040, 1346269), ratio(832040, 1346269)}, // neighbours in Fibonacci's sequence
	} {
		if s, ok := exact.Reduce(x.r); s != x.s || !ok {
			t.Errorf("Reduce(%v) = %v, %t, not %v", x.r, s, ok, x.s)
		}
	}
}

// P2.4: the same value with the least Den.
func TestReduceAgainstExactFractions(t *testing.T) {
	l := ratios()
	for d := 1; d <= 60; d++ {
		for n := -60; n <= 60; n++ {
			l = append(l, ratio(n, d))
		}
	}
	for _, r := range l {
		want := ratio(int(fraction(r).Num().Int64()), int(fraction(r).Denom().Int64()))
		if s, ok := exact.Reduce(r); s != want || !ok {
			t.Errorf("Reduce(%v) = %v, %t, not %v", r, s, ok, want)
		}
	}
}

// P2.4
func TestReduceRejectsMalformedRatios(t *testing.T) {
	for _, r := range slices.Concat(malformed(), []api.Ratio{{}}) {
		if s, ok := exact.Reduce(r); s != (api.Ratio{}) || ok {
			t.Errorf("Reduce(%v) = %v, %t", r, s, ok)
		}
	}
}

// P2.5
func TestCompareRatios(t *testing.T) {
	for _, x := range []struct {
		a, b api.Ratio
		c    int
	}{
		{ratio(1, 3), ratio(1, 2), -1},
		{ratio(1, 2), ratio(1, 3), 1},
		{ratio(2, 4), ratio(1, 2), 0},
		{ratio(-1, 3), ratio(-1, 2), 1},
		{ratio(-2, 4), ratio(-1, 2), 0},
		{ratio(-1, 2), ratio(1, 3), -1},
		{ratio(0, 5), ratio(0, 1), 0},
		{ratio(0, most), ratio(1, most), -1},
		{ratio(0, 1), ratio(-1, most), 1},
		{ratio(most, most), ratio(1, 1), 0},
		{ratio(most, 1), ratio(-most, 1), 1},
		{ratio(-most, 1), ratio(most, 1), -1},
		{ratio(most, most-1), ratio(most-1, most-2), -1},
		{ratio(most-1, most), ratio(most-2, most-1), 1},
		{ratio(1-most, most), ratio(2-most, most-1), -1},
		{ratio(1, most), ratio(1, most-1), -1},
		{ratio(most, 2), ratio(most/2, 1), 0},
	} {
		if c, ok := exact.CompareRatios(x.a, x.b); c != x.c || !ok {
			t.Errorf("CompareRatios(%v, %v) = %d, %t, not %d", x.a, x.b, c, ok, x.c)
		}
	}
}

// P2.5: all pairs of well-formed ratios, in lowest terms or not.
func TestCompareRatiosAgainstExactFractions(t *testing.T) {
	for _, a := range ratios() {
		for _, b := range ratios() {
			want := fraction(a).Cmp(fraction(b))
			if c, ok := exact.CompareRatios(a, b); c != want || !ok {
				t.Errorf("CompareRatios(%v, %v) = %d, %t, not %d", a, b, c, ok, want)
			}
		}
	}
}

// P2.5
func TestCompareRatiosRejectsMalformedRatios(t *testing.T) {
	for _, a := range malformed() {
		for _, b := range slices.Concat([]api.Ratio{a, {}, ratio(0, 1), ratio(1, 2), ratio(-most, most)}, malformed()) {
			if c, ok := exact.CompareRatios(a, b); c != 0 || ok {
				t.Errorf("CompareRatios(%v, %v) = %d, %t", a, b, c, ok)
			}
			if c, ok := exact.CompareRatios(b, a); c != 0 || ok {
				t.Errorf("CompareRatios(%v, %v) = %d, %t", b, a, c, ok)
			}
		}
	}
}

// wantWithin reports an error unless Within of the arguments is is.
func wantWithin(t *testing.T, part, whole int, least, most api.Ratio, is bool) {
	t.Helper()
	if got := exact.Within(part, whole, least, most); got != is {
		t.Errorf("Within(%d, %d, %v, %v) is %t", part, whole, least, most, got)
	}
}

// P2.6: the chapter's example 4, both bounds themselves, and the limits.
func TestWithin(t *testing.T) {
	none, third, half, all := ratio(0, 1), ratio(1, 3), ratio(1, 2), ratio(1, 1)
	wantWithin(t, 1, 3, third, half, true)
	wantWithin(t, 1, 2, third, half, true)
	wantWithin(t, 2, 6, ratio(3, 9), ratio(2, 4), true)
	wantWithin(t, 2, 5, third, half, true)
	wantWithin(t, 1, 4, third, half, false)
	wantWithin(t, 2, 3, third, half, false)
	wantWithin(t, 0, 3, third, half, false)
	wantWithin(t, 3, 3, third, half, false)
	wantWithin(t, 0, 3, none, all, true)
	wantWithin(t, 3, 3, none, all, true)
	wantWithin(t, 1, 2, half, third, false)
	wantWithin(t, 1, 2, ratio(-1, 2), ratio(5, 2), true)
	wantWithin(t, 0, 1, ratio(-1, 2), ratio(-1, 3), false)
	wantWithin(t, 1, 1, ratio(3, 2), ratio(5, 2), false)
	wantWithin(t, 0, most, none, none, true)
	wantWithin(t, 1, most, none, none, false)
	wantWithin(t, 1, most, ratio(1, most), ratio(1, most), true)
	wantWithin(t, most, most, all, all, true)
	wantWithin(t, most-1, most, all, all, false)
	wantWithin(t, most-1, most, ratio(most-1, most), ratio(most-1, most), true)
	wantWithin(t, most-1, most, ratio(most-2, most-1), all, true)
	wantWithin(t, most-2, most-1, ratio(most-1, most), all, false)
}

// P2.6: all parts of small wholes, against exact fractions.
func TestWithinAgainstExactFractions(t *testing.T) {
	bounds := []api.Ratio{ratio(-most, 1), ratio(-1, most), ratio(0, 3), ratio(1, most), ratio(1, 3), ratio(2, 4), ratio(3, 5), ratio(most-1, most), ratio(2, 2), ratio(7, 6), ratio(most, 1)}
	for whole := 1; whole <= 12; whole++ {
		for part := range whole + 1 {
			share := fraction(ratio(part, whole))
			for _, a := range bounds {
				for _, b := range bounds {
					wantWithin(t, part, whole, a, b, share.Cmp(fraction(a)) >= 0 && share.Cmp(fraction(b)) <= 0)
				}
			}
		}
	}
}

// P2.6: every share of nothing is within well-formed ratios, whatever they
// are.
func TestWithinOfNothing(t *testing.T) {
	for _, a := range ratios() {
		for _, b := range []api.Ratio{ratio(1, 3), ratio(-1, 1), ratio(most, 1), ratio(0, most)} {
			wantWithin(t, 0, 0, a, b, true)
			wantWithin(t, 0, 0, b, a, true)
		}
	}
}

// P2.6
func TestWithinRejectsOtherParts(t *testing.T) {
	everything := [2]api.Ratio{ratio(-most, 1), ratio(most, 1)}
	for _, x := range [][2]int{
		{-1, 0}, {-1, 1}, {-1, 3}, {-1, most}, {-most, most}, {math.MinInt, 1}, {math.MinInt, 0}, {math.MinInt, math.MaxInt},
		{1, 0}, {4, 3}, {most, most - 1}, {most + 1, most}, {math.MaxInt, 1}, {math.MaxInt, 0}, {math.MaxInt, math.MaxInt - 1},
		{0, -1}, {-1, -1}, {-2, -1}, {-1, -2}, {0, math.MinInt}, {math.MinInt, math.MinInt}, {math.MaxInt, math.MinInt},
		{0, most + 1}, {1, most + 1}, {most + 1, most + 1}, {0, 1 << 32}, {0, math.MaxInt}, {math.MaxInt, math.MaxInt},
	} {
		wantWithin(t, x[0], x[1], everything[0], everything[1], false)
	}
}

// P2.6: a ratio that is not well-formed is never within, not even a share of
// nothing, whichever bound it is.
func TestWithinRejectsMalformedRatios(t *testing.T) {
	for _, r := range malformed() {
		for _, x := range [][2]int{{0, 0}, {0, 1}, {1, 2}, {1, 1}, {most, most}} {
			wantWithin(t, x[0], x[1], r, ratio(most, 1), false)
			wantWithin(t, x[0], x[1], ratio(-most, 1), r, false)
			wantWithin(t, x[0], x[1], r, r, false)
		}
	}
}
