// Package value is layer 1: values, their order and their encoding.
package value

import (
	"cmp"
	"slices"
	"strings"

	"warehouse/api"
)

// Valid reports whether v is a value: its kind exists, its fields are within
// the limits of the kind, and the fields that the kind does not use are zero
// (P1.1).
func Valid(v api.Value) bool {
	switch v.Kind {
	case api.Null:
		return v.Num == 0 && v.Str == ""
	case api.Bool:
		return (v.Num == 0 || v.Num == 1) && v.Str == ""
	case api.Int:
		return -api.MaxInt <= v.Num && v.Num <= api.MaxInt && v.Str == ""
	case api.Text:
		return v.Num == 0 && len(v.Str) <= api.MaxText
	case api.Time:
		return 0 <= v.Num && v.Num <= api.MaxTime && v.Str == ""
	}
	return false
}

// Compare returns -1, 0 or 1 if a is less than, equal to or greater than b. It
// is a total order of all structs, also of those that are no values (P1.2).
func Compare(a, b api.Value) int {
	if c := cmp.Compare(a.Kind, b.Kind); c != 0 {
		return c
	}
	if c := cmp.Compare(a.Num, b.Num); c != 0 {
		return c
	}
	return strings.Compare(a.Str, b.Str)
}

// CompareRows compares two rows value by value. A row is greater than every
// shorter row that it begins with (P1.3).
func CompareRows(a, b []api.Value) int {
	return slices.CompareFunc(a, b, Compare)
}

// Truth returns 1 for true, 0 for false and -1 for everything else (P1.4).
func Truth(v api.Value) int {
	if v.Kind != api.Bool || !Valid(v) {
		return -1
	}
	return v.Num
}
