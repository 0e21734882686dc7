package bag

import (
	"slices"

	"warehouse/api"
)

// Normalize returns the bag in which each row has the sum of the counts of its
// entries in l, which may be in any order and have the count 0. It returns
// ErrLimit for an entry with too many values or a count that is too great, and
// ErrShape for one with a value that is not valid (P6.2).
func Normalize(l []api.Entry) ([]api.Entry, api.Errno) {
	for _, e := range l {
		if err := checkEntry(e); err != api.OK {
			return nil, err
		}
	}
	return result(collect(slices.Clone(l)))
}

// Negate returns the bag with all counts negated, or the error of Validate
// (P6.4).
func Negate(b []api.Entry) ([]api.Entry, api.Errno) {
	return Subtract(nil, b)
}

// Add returns the bag in which each row has the sum of its counts in a and b.
// It returns the error of Validate for a, or else that for b (P6.5).
func Add(a, b []api.Entry) ([]api.Entry, api.Errno) {
	if err := validateBoth(a, b); err != api.OK {
		return nil, err
	}
	return result(merge(a, b, 1))
}

// Subtract returns the bag in which each row has its count in a minus that in
// b. It returns the error of Validate for a, or else that for b (P6.5).
func Subtract(a, b []api.Entry) ([]api.Entry, api.Errno) {
	if err := validateBoth(a, b); err != api.OK {
		return nil, err
	}
	return result(merge(a, b, -1))
}

// Except returns the table in which each row has its count in a minus that in
// b, if this is positive. It returns the error of Validate for a, or else that
// for b, or else ErrShape if one of them is not a table (P6.6).
func Except(a, b []api.Entry) ([]api.Entry, api.Errno) {
	if err := validateBoth(a, b); err != api.OK {
		return nil, err
	}
	if slices.ContainsFunc(a, isNegative) || slices.ContainsFunc(b, isNegative) {
		return nil, api.ErrShape
	}
	// The negative counts go before the limits are checked: b may have as many
	// rows besides those of a as a bag can hold.
	return result(slices.DeleteFunc(merge(a, b, -1), isNegative))
}

// validateBoth returns the error of Validate for a, or else that for b.
func validateBoth(a, b []api.Entry) api.Errno {
	if err := Validate(a); err != api.OK {
		return err
	}
	return Validate(b)
}

// collect sorts l and returns the entries of the rows that it contains, in
// ascending order, with the sums of their counts that are not 0. It reuses the
// memory of l.
func collect(l []api.Entry) []api.Entry {
	slices.SortFunc(l, compare)
	sums := l[:0]
	for _, e := range l {
		if last := len(sums) - 1; last >= 0 && compare(sums[last], e) == 0 {
			// A list has fewer than 2^31 entries (R10), so that no sum on the
			// way exceeds 2^47.
			sums[last].Count += e.Count
		} else {
			sums = append(sums, e)
		}
	}
	return slices.DeleteFunc(sums, isZero)
}

// merge returns the entries of the rows of two bags, in ascending order, with
// the sums of their counts in a and sign times those in b that are not 0.
func merge(a, b []api.Entry, sign int) []api.Entry {
	var sums []api.Entry
	for len(a) > 0 || len(b) > 0 {
		c := compareFirst(a, b)
		var e api.Entry
		if c <= 0 {
			e, a = a[0], a[1:]
		}
		if c >= 0 {
			e, b = api.Entry{Row: b[0].Row, Count: e.Count + sign*b[0].Count}, b[1:]
		}
		if e.Count != 0 {
			sums = append(sums, e)
		}
	}
	return sums
}

// compareFirst compares the first rows of two lists that are not both empty.
// An empty list counts as greater, so that the other one is used up.
func compareFirst(a, b []api.Entry) int {
	switch {
	case len(a) == 0:
		return 1
	case len(b) == 0:
		return -1
	}
	return compare(a[0], b[0])
}
