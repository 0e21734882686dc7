package bag

import (
	"warehouse/api"
	"warehouse/schema"
	"warehouse/value"
)

// Project returns the bag in which each row has the sum of the counts of the
// rows of b from which schema.Pick makes it. It returns the error of Validate,
// or ErrLimit for more than MaxColumns numbers (P6.7).
func Project(b []api.Entry, indices []int) ([]api.Entry, api.Errno) {
	if err := Validate(b); err != api.OK {
		return nil, err
	}
	if len(indices) > api.MaxColumns {
		return nil, api.ErrLimit
	}
	l := make([]api.Entry, len(b))
	for i, e := range b {
		l[i] = api.Entry{Row: schema.Pick(e.Row, indices), Count: e.Count}
	}
	return result(collect(l))
}

// Select returns the bag of the entries for whose row schema.Pick gives the
// key, or the error of Validate (P6.8).
func Select(b []api.Entry, indices []int, key []api.Value) ([]api.Entry, api.Errno) {
	if err := Validate(b); err != api.OK {
		return nil, err
	}
	// Pick gives as many values as there are numbers, of which there may be
	// very many.
	if len(indices) != len(key) {
		return nil, api.OK
	}
	var l []api.Entry
	for _, e := range b {
		if value.CompareRows(schema.Pick(e.Row, indices), key) == 0 {
			l = append(l, e)
		}
	}
	return result(l)
}
