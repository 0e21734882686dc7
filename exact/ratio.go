package exact

import (
	"cmp"

	"warehouse/api"
)

// Reduce returns r in lowest terms and true if r is well-formed (P2.4).
func Reduce(r api.Ratio) (api.Ratio, bool) {
	if !wellFormed(r) {
		return api.Ratio{}, false
	}
	d := commonDivisor(max(r.Num, -r.Num), r.Den)
	return api.Ratio{Num: r.Num / d, Den: r.Den / d}, true
}

// CompareRatios returns -1, 0 or 1 if the value of a is less than, equal to or
// greater than that of b, and true, if both are well-formed (P2.5).
func CompareRatios(a, b api.Ratio) (int, bool) {
	if !wellFormed(a) || !wellFormed(b) {
		return 0, false
	}
	return compareValues(a, b), true
}

// Within reports whether part of whole is a share from least to most; every
// share of nothing is. It is false if the arguments are not a part, a whole
// and two well-formed ratios (P2.6).
func Within(part, whole int, least, most api.Ratio) bool {
	if part < 0 || part > whole || whole > api.MaxInt {
		return false
	}
	if !wellFormed(least) || !wellFormed(most) {
		return false
	}
	if whole == 0 {
		return true
	}
	share := api.Ratio{Num: part, Den: whole}
	return compareValues(least, share) <= 0 && compareValues(share, most) <= 0
}

// wellFormed reports whether Num is small and Den is from 1 to MaxInt.
func wellFormed(r api.Ratio) bool {
	return small(r.Num) && 1 <= r.Den && r.Den <= api.MaxInt
}

// compareValues compares the values of two ratios that are well-formed.
// Denominators are positive, so that multiplying by them keeps the order.
func compareValues(a, b api.Ratio) int {
	return cmp.Compare(a.Num*b.Den, b.Num*a.Den)
}

// commonDivisor returns the greatest common divisor of a and b; a is not
// negative and b is positive.
func commonDivisor(a, b int) int {
	for a > 0 {
		a, b = b%a, a
	}
	return b
}
