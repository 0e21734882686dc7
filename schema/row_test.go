package schema_test

import (
	"math"
	"slices"
	"strings"
	"testing"

	"warehouse/api"
	"warehouse/schema"
)

func null() api.Value { return api.Value{} }

func integer(n int) api.Value { return api.Value{Kind: api.Int, Num: n} }

func text(s string) api.Value { return api.Value{Kind: api.Text, Str: s} }

// values returns values that are not null.
func values() []api.Value {
	return []api.Value{
		{Kind: api.Bool}, {Kind: api.Bool, Num: 1},
		integer(0), integer(-1), integer(7), integer(api.MaxInt), integer(-api.MaxInt),
		text(""), text("a"), text("\xff"), text(strings.Repeat("x", api.MaxText)),
		{Kind: api.Time}, {Kind: api.Time, Num: 1}, {Kind: api.Time, Num: api.MaxTime},
	}
}

// structs returns structs that are no values, some of every kind.
func structs() []api.Value {
	return []api.Value{
		{Num: 1}, {Str: "a"}, {Kind: api.Bool, Num: 2}, {Kind: api.Bool, Str: "a"},
		integer(api.MaxInt + 1), integer(-api.MaxInt - 1), {Kind: api.Int, Str: "a"},
		text(strings.Repeat("x", api.MaxText+1)), {Kind: api.Text, Num: 1},
		{Kind: api.Time, Num: -1}, {Kind: api.Time, Num: api.MaxTime + 1}, {Kind: api.Time, Str: "a"},
		{Kind: 5}, {Kind: 9}, {Kind: -1}, {Kind: math.MaxInt}, {Kind: math.MinInt},
	}
}

// wantFit reports an error unless CheckRow of the columns and the row is err.
func wantFit(t *testing.T, l []api.Column, row []api.Value, err api.Errno) {
	t.Helper()
	if got := schema.CheckRow(l, row); got != err {
		t.Errorf("CheckRow(%v, %+v) = %d, not %d", l, row, got, err)
	}
}

// P5.4: the chapter's example 2.
func TestCheckRowExample(t *testing.T) {
	l := []api.Column{required("a", api.Int)}
	wantFit(t, l, []api.Value{null()}, api.ErrType)
	wantFit(t, l, nil, api.ErrShape)
	wantFit(t, l, []api.Value{}, api.ErrShape)
}

// P5.4: each value in columns of each kind, which need not be valid columns.
func TestCheckRowOfOneValue(t *testing.T) {
	for _, kind := range append(kinds(), api.Bool, api.Int, api.Text, api.Time) {
		for _, c := range []api.Column{required("a", kind), optional("a", kind), optional("", kind)} {
			l := []api.Column{c}
			for _, v := range values() {
				if v.Kind == kind {
					wantFit(t, l, []api.Value{v}, api.OK)
				} else {
					wantFit(t, l, []api.Value{v}, api.ErrType)
				}
			}
			if c.Nullable {
				wantFit(t, l, []api.Value{null()}, api.OK)
			} else {
				wantFit(t, l, []api.Value{null()}, api.ErrType)
			}
			for _, v := range structs() {
				wantFit(t, l, []api.Value{v}, api.ErrShape)
			}
		}
	}
}

// P5.4: the numbers of columns and values come first, whatever they are.
func TestCheckRowComparesNumbers(t *testing.T) {
	wantFit(t, nil, nil, api.OK)
	wantFit(t, nil, []api.Value{}, api.OK)
	for n := range 20 {
		l := slices.Repeat([]api.Column{optional("a", api.Int)}, n)
		for m := range 20 {
			for _, v := range []api.Value{null(), integer(1)} {
				if n == m {
					wantFit(t, l, slices.Repeat([]api.Value{v}, m), api.OK)
				} else {
					wantFit(t, l, slices.Repeat([]api.Value{v}, m), api.ErrShape)
				}
			}
			if n != m {
				wantFit(t, l, slices.Repeat([]api.Value{text("a")}, m), api.ErrShape)
				wantFit(t, l, slices.Repeat([]api.Value{{Kind: 9}}, m), api.ErrShape)
			}
		}
	}
}

// P5.4: one value that does not fit, at every place.
func TestCheckRowOfManyValues(t *testing.T) {
	kindsOfRow := []int{api.Bool, api.Int, api.Text, api.Time, api.Int, api.Text, api.Int, api.Int, api.Time, api.Bool, api.Text, api.Int}
	for i := range kindsOfRow {
		var l []api.Column
		var row []api.Value
		for _, kind := range kindsOfRow {
			l = append(l, required("a", kind))
			row = append(row, api.Value{Kind: kind})
		}
		wantFit(t, l, row, api.OK)
		row[i] = null()
		wantFit(t, l, row, api.ErrType)
		for k := range l {
			l[k].Nullable = k != i
		}
		wantFit(t, l, row, api.ErrType)
		l[i].Nullable = true
		wantFit(t, l, row, api.OK)
		row[i].Kind = l[i].Kind%api.Time + 1
		wantFit(t, l, row, api.ErrType)
		row[i].Kind = 5
		wantFit(t, l, row, api.ErrShape)
	}
}

// P5.4: the errors of a value come before those of the next one, and its shape
// before its type (R6).
func TestCheckRowOrdersErrors(t *testing.T) {
	l := []api.Column{required("a", api.Int), required("b", api.Int)}
	good, shape := integer(1), api.Value{Kind: api.Text, Num: 1}
	for _, other := range []api.Value{null(), text("a")} {
		wantFit(t, l, []api.Value{good, other}, api.ErrType)
		wantFit(t, l, []api.Value{other, good}, api.ErrType)
		wantFit(t, l, []api.Value{other, shape}, api.ErrType)
		wantFit(t, l, []api.Value{shape, other}, api.ErrShape)
		wantFit(t, l, []api.Value{other}, api.ErrShape)
		wantFit(t, l, []api.Value{other, good, good}, api.ErrShape)
	}
	wantFit(t, l, []api.Value{good, shape}, api.ErrShape)
	wantFit(t, l, []api.Value{shape, shape}, api.ErrShape)
	wantFit(t, l, []api.Value{good, good}, api.OK)
}

// wantPick reports an error unless Pick of the row is picked.
func wantPick(t *testing.T, row []api.Value, indices []int, picked []api.Value) {
	t.Helper()
	if got := schema.Pick(row, indices); !slices.Equal(got, picked) {
		t.Errorf("Pick(%+v, %v) = %+v, not %+v", row, indices, got, picked)
	}
}

// outside returns numbers that are out of range for a list of n elements,
// among them those that are in range in 8 or 32 bits.
func outside(n int) []int {
	return []int{math.MinInt, math.MinInt + 1, -1 << 32, math.MinInt32, -256, -n - 1, -n, -2, -1, n, n + 1, n + 256, 1 << 16, math.MaxInt32, 1 << 32, math.MaxInt - 1, math.MaxInt}
}

// P5.6: the chapter's example 3, and numbers that are repeated or missing.
func TestPick(t *testing.T) {
	wantPick(t, []api.Value{integer(7), integer(8)}, []int{1, 5, 1}, []api.Value{integer(8), null(), integer(8)})
	row := []api.Value{integer(1), null(), text("a"), {Kind: 9, Num: -1, Str: "b"}}
	wantPick(t, row, []int{0, 1, 2, 3}, row)
	wantPick(t, row, []int{3, 2, 1, 0}, []api.Value{row[3], row[2], row[1], row[0]})
	wantPick(t, row, []int{2}, row[2:3])
	wantPick(t, row, []int{0, 0, 3, 3, 0}, []api.Value{row[0], row[0], row[3], row[3], row[0]})
	wantPick(t, row, nil, nil)
	wantPick(t, row, []int{}, nil)
	wantPick(t, nil, nil, nil)
	wantPick(t, nil, []int{0, 1, -1}, make([]api.Value, 3))
	wantPick(t, []api.Value{}, []int{0}, make([]api.Value, 1))
	many := make([]int, 1000)
	wantPick(t, row, many, slices.Repeat(row[:1], 1000))
}

// P5.6: numbers out of range, also where the row has spare capacity.
func TestPickOutOfRange(t *testing.T) {
	memory := slices.Repeat([]api.Value{integer(1)}, 600)
	for n := range api.MaxColumns + 2 {
		for _, i := range outside(n) {
			if 0 <= i && i < n {
				continue
			}
			wantPick(t, memory[:n], []int{i}, []api.Value{null()})
			if n > 0 {
				wantPick(t, memory[:n], []int{0, i, n - 1}, []api.Value{integer(1), null(), integer(1)})
			}
		}
	}
}

// wantSelect reports an error unless Select of the columns is selected.
func wantSelect(t *testing.T, l []api.Column, indices []int, selected []api.Column) {
	t.Helper()
	if got := schema.Select(l, indices); !slices.Equal(got, selected) {
		t.Errorf("Select(%v, %v) = %v, not %v", l, indices, got, selected)
	}
}

// P5.6: the columns with all their fields, in any order, repeated or missing.
func TestSelect(t *testing.T) {
	l := []api.Column{required("a", api.Int), optional("b", api.Text), optional("A.", 9), {}}
	wantSelect(t, l, []int{0, 1, 2, 3}, l)
	wantSelect(t, l, []int{2, 1, 0}, []api.Column{l[2], l[1], l[0]})
	wantSelect(t, l, []int{1, 1, 0, 1}, []api.Column{l[1], l[1], l[0], l[1]})
	wantSelect(t, l, nil, nil)
	wantSelect(t, nil, nil, nil)
	wantSelect(t, l, []int{}, nil)
	wantSelect(t, nil, []int{0, -1}, make([]api.Column, 2))
	memory := slices.Repeat(l[1:2], 600)
	for n := range api.MaxColumns + 2 {
		for _, i := range outside(n) {
			if 0 <= i && i < n {
				continue
			}
			wantSelect(t, memory[:n], []int{i}, make([]api.Column, 1))
			if n > 0 {
				wantSelect(t, memory[:n], []int{0, i, n - 1}, []api.Column{l[1], {}, l[1]})
			}
		}
	}
}

// arguments returns columns, a row, names and numbers that have spare capacity,
// together with that capacity.
func arguments() (l []api.Column, row []api.Value, names []string, indices []int) {
	l = []api.Column{required("a", api.Int), optional("b", api.Text), optional("spare", api.Time)}
	row = []api.Value{integer(1), text("x"), text("spare")}
	return l, row, []string{"a", "b", "spare"}, []int{0, 1, 2}
}

// P5.2 to P5.7 and R2: no function writes to its arguments or behind them.
func TestArgumentsStay(t *testing.T) {
	l, row, names, indices := arguments()
	b := []api.Column{optional("a", api.Int), required("b", api.Text), required("c", api.Text)}
	schema.Validate(l[:2])
	schema.Index(l[:2], "b")
	schema.CheckRow(l[:2], row[:2])
	schema.Indices(l[:2], names[:2])
	schema.Pick(row[:2], indices[:2])
	schema.Select(l[:2], indices[:2])
	schema.Same(l[:2], b[:2])
	schema.Widen(l[:2], b[:2])
	columns, values, texts, numbers := arguments()
	if !slices.Equal(l, columns) || !slices.Equal(row, values) || !slices.Equal(names, texts) || !slices.Equal(indices, numbers) {
		t.Errorf("%v, %+v, %q, %v", l, row, names, indices)
	}
	if !slices.Equal(b, []api.Column{optional("a", api.Int), required("b", api.Text), required("c", api.Text)}) {
		t.Errorf("%v", b)
	}
}

// wipe overwrites a list and its spare capacity.
func wipe[T any](l []T) { clear(l[:cap(l)]) }

// P5.5 to P5.7 and R2: results share no memory with arguments or with each
// other.
func TestResultsAreNew(t *testing.T) {
	l, row, names, indices := arguments()
	for _, n := range []int{0, 1, 2, 3} {
		found, _ := schema.Indices(l[:n], names[:n])
		wipe(found)
		wipe(schema.Pick(row[:n], indices[:n]))
		wipe(schema.Select(l[:n], indices[:n]))
		wipe(schema.Widen(l[:n], l[:n]))
		wipe(schema.Widen(l[:n], nil))
	}
	columns, values, texts, numbers := arguments()
	if !slices.Equal(l, columns) || !slices.Equal(row, values) || !slices.Equal(names, texts) || !slices.Equal(indices, numbers) {
		t.Errorf("%v, %+v, %q, %v", l, row, names, indices)
	}
	found, _ := schema.Indices(l, names)
	picked, selected, wide := schema.Pick(row, indices), schema.Select(l, indices), schema.Widen(l, nil)
	again, _ := schema.Indices(l, names)
	wipe(again)
	wipe(schema.Pick(row, indices))
	wipe(schema.Select(l, indices))
	wipe(schema.Widen(l, nil))
	wipe(l)
	wipe(row)
	wipe(indices)
	if !slices.Equal(found, numbers) || !slices.Equal(picked, values) || !slices.Equal(selected, columns) || !slices.Equal(wide, columns) {
		t.Errorf("%v, %+v, %v, %v", found, picked, selected, wide)
	}
}
