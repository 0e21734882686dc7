package value_test

import (
	"math"
	"slices"
	"strings"
	"testing"

	"warehouse/api"
	"warehouse/value"
)

func null() api.Value { return api.Value{} }

func boolean(n int) api.Value { return api.Value{Kind: api.Bool, Num: n} }

func integer(n int) api.Value { return api.Value{Kind: api.Int, Num: n} }

func text(s string) api.Value { return api.Value{Kind: api.Text, Str: s} }

func moment(n int) api.Value { return api.Value{Kind: api.Time, Num: n} }

// longest is a text of the greatest length that a value may have.
var longest = strings.Repeat("x", api.MaxText)

// values returns values of all kinds in ascending order, with the limits of
// each kind.
func values() []api.Value {
	return []api.Value{
		null(),
		boolean(0), boolean(1),
		integer(-api.MaxInt), integer(-api.MaxInt + 1), integer(-5), integer(-1), integer(0), integer(1), integer(256), integer(api.MaxInt - 1), integer(api.MaxInt),
		text(""), text("\x00"), text("B"), text("a"), text("a\x00"), text("ab"), text("b"), text(longest), text("é"), text("\xff"),
		moment(0), moment(1), moment(65536), moment(api.MaxTime - 1), moment(api.MaxTime),
	}
}

// structs returns structs that are no values.
func structs() []api.Value {
	return []api.Value{
		{Num: 1}, {Num: -1}, {Str: "a"}, {Num: 1, Str: "a"},
		boolean(2), boolean(-1), boolean(256), boolean(math.MaxInt), boolean(math.MinInt),
		{Kind: api.Bool, Str: "a"}, {Kind: api.Bool, Num: 1, Str: "a"},
		integer(api.MaxInt + 1), integer(-api.MaxInt - 1), integer(1 << 32), integer(math.MaxInt), integer(math.MinInt),
		{Kind: api.Int, Str: "a"}, {Kind: api.Int, Num: 7, Str: "\x00"},
		text(longest + "x"), text(strings.Repeat("é", api.MaxText/2) + "x"), text(strings.Repeat("x", 256)),
		{Kind: api.Text, Num: 1}, {Kind: api.Text, Num: -1, Str: "a"},
		moment(-1), moment(api.MaxTime + 1), moment(1 << 32), moment(math.MaxInt), moment(math.MinInt),
		{Kind: api.Time, Str: "a"}, {Kind: api.Time, Num: 7, Str: "a"},
		{Kind: 5}, {Kind: 5, Num: 1}, {Kind: 5, Str: "a"}, {Kind: -1}, {Kind: 256}, {Kind: 257, Num: 1}, {Kind: math.MaxInt}, {Kind: math.MinInt},
	}
}

// P1.1
func TestValidAcceptsValues(t *testing.T) {
	for _, v := range values() {
		if !value.Valid(v) {
			t.Errorf("Valid(%+v) is false", v)
		}
	}
}

// P1.1: the limit of a text counts bytes, which need not be UTF-8.
func TestValidCountsBytes(t *testing.T) {
	for _, v := range []api.Value{
		text(strings.Repeat("é", api.MaxText/2)),
		text(strings.Repeat("\xff", api.MaxText)),
		text(strings.Repeat("\x00", api.MaxText)),
	} {
		if !value.Valid(v) {
			t.Errorf("Valid(%+v) is false", v)
		}
	}
	if v := text(strings.Repeat("é", api.MaxText/2+1)); value.Valid(v) {
		t.Errorf("Valid(%+v) is true", v)
	}
}

// P1.1
func TestValidRejectsOtherStructs(t *testing.T) {
	for _, v := range structs() {
		if value.Valid(v) {
			t.Errorf("Valid(%+v) is true", v)
		}
	}
}

// sign returns how the place i compares to the place k.
func sign(i, k int) int {
	switch {
	case i < k:
		return -1
	case i > k:
		return 1
	}
	return 0
}

// P1.2
func TestCompareOrdersValues(t *testing.T) {
	l := values()
	for i, a := range l {
		for k, b := range l {
			if c := value.Compare(a, b); c != sign(i, k) {
				t.Errorf("Compare(%+v, %+v) = %d", a, b, c)
			}
		}
	}
}

// P1.2: Kind comes before Num and Num before Str, also where a kind does not
// use them, and differences that no int can hold do not matter.
func TestCompareOrdersStructs(t *testing.T) {
	l := []api.Value{
		{Kind: math.MinInt, Num: 9, Str: "z"},
		{Kind: -1, Num: math.MaxInt, Str: "z"},
		{Num: math.MinInt, Str: "z"},
		{Num: -1, Str: "z"},
		{},
		{Str: "a"},
		{Num: 1},
		{Kind: api.Bool, Num: -1},
		{Kind: api.Bool, Num: 0},
		{Kind: api.Bool, Num: 0, Str: "a"},
		{Kind: api.Bool, Num: 2},
		{Kind: api.Int, Num: math.MinInt},
		{Kind: api.Int, Num: 7},
		{Kind: api.Int, Num: 7, Str: "x"},
		{Kind: api.Int, Num: math.MaxInt},
		{Kind: api.Text, Num: 0, Str: "z"},
		{Kind: api.Text, Num: 1, Str: "a"},
		{Kind: api.Text, Num: 1, Str: longest + "x"},
		{Kind: api.Time, Num: -1},
		{Kind: api.Time, Num: api.MaxTime + 1},
		{Kind: 5},
		{Kind: math.MaxInt, Num: math.MinInt},
	}
	for i, a := range l {
		for k, b := range l {
			if c := value.Compare(a, b); c != sign(i, k) {
				t.Errorf("Compare(%+v, %+v) = %d", a, b, c)
			}
		}
	}
}

// P1.2: null is the least value. The chapter's example 1.
func TestCompareExample(t *testing.T) {
	l := []api.Value{null(), boolean(0), boolean(1), integer(-5)}
	for i := range len(l) - 1 {
		if c := value.Compare(l[i], l[i+1]); c != -1 {
			t.Errorf("Compare(%+v, %+v) = %d", l[i], l[i+1], c)
		}
	}
	for _, v := range values()[1:] {
		if c := value.Compare(null(), v); c != -1 {
			t.Errorf("Compare(null, %+v) = %d", v, c)
		}
	}
}

// P1.3
func TestCompareRows(t *testing.T) {
	rows := [][]api.Value{
		{},
		{null()},
		{null(), null()},
		{null(), integer(1)},
		{integer(-3)},
		{integer(1)},
		{integer(1), null()},
		{integer(1), null(), null()},
		{integer(1), integer(2)},
		{integer(1), integer(2), text("a")},
		{integer(1), integer(2), text("b")},
		{integer(1), integer(3), text("a")},
		{integer(2)},
		{integer(2), integer(1)},
		{text("a"), text("b")},
		{text("ab")},
		{{Kind: 9, Num: -1}},
		{{Kind: 9}, {Kind: -9}},
		{{Kind: 9}, {Num: 1}},
	}
	for i, a := range rows {
		for k, b := range rows {
			if c := value.CompareRows(a, b); c != sign(i, k) {
				t.Errorf("CompareRows(%+v, %+v) = %d", a, b, c)
			}
		}
	}
}

// P1.3: a row without values is one row, whether nil or empty (R2).
func TestCompareRowsWithoutValues(t *testing.T) {
	if c := value.CompareRows(nil, []api.Value{}); c != 0 {
		t.Errorf("CompareRows(nil, empty) = %d", c)
	}
	if c := value.CompareRows([]api.Value{}, nil); c != 0 {
		t.Errorf("CompareRows(empty, nil) = %d", c)
	}
}

// P1.3: rows longer than any row of a relation are compared as well.
func TestCompareLongRows(t *testing.T) {
	a := make([]api.Value, 300)
	b := slices.Clone(a)
	if c := value.CompareRows(a, b); c != 0 {
		t.Errorf("equal rows: %d", c)
	}
	b[299] = boolean(0)
	if c := value.CompareRows(a, b); c != -1 {
		t.Errorf("the last values differ: %d", c)
	}
	if c := value.CompareRows(a, a[:299]); c != 1 {
		t.Errorf("the second row is shorter: %d", c)
	}
}

// P1.3: the chapter's example 2.
func TestCompareRowsExample(t *testing.T) {
	if c := value.CompareRows([]api.Value{integer(1)}, []api.Value{integer(1), null()}); c != -1 {
		t.Errorf("CompareRows((1), (1, null)) = %d", c)
	}
}

// P1.4
func TestTruth(t *testing.T) {
	if n := value.Truth(boolean(1)); n != 1 {
		t.Errorf("Truth(true) = %d", n)
	}
	if n := value.Truth(boolean(0)); n != 0 {
		t.Errorf("Truth(false) = %d", n)
	}
}

// P1.4: neither other values nor structs that resemble booleans are true or
// false.
func TestTruthOfOtherStructs(t *testing.T) {
	for _, v := range slices.Concat(values(), structs()) {
		if v == boolean(0) || v == boolean(1) {
			continue
		}
		if n := value.Truth(v); n != -1 {
			t.Errorf("Truth(%+v) = %d", v, n)
		}
	}
}
