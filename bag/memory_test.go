package bag_test

import (
	"slices"
	"testing"

	"warehouse/api"
	"warehouse/bag"
)

// inputs are arguments of the functions, together with their spare capacity.
type inputs struct {
	a, b    []api.Entry
	indices []int
	key     []api.Value
}

// arguments returns tables whose rows share memory, and numbers and a key, each
// of them followed by one more element that does not belong to it.
func arguments() inputs {
	values := row(1, 2, 3, 9)
	return inputs{
		a:       []api.Entry{{Row: values[:0], Count: 2}, {Row: values[:1], Count: 2}, {Row: values[:2], Count: 1}, {Row: values[1:2], Count: 3}, {Row: values[3:], Count: 1}},
		b:       []api.Entry{{Row: values[:1], Count: 1}, {Row: values[:3], Count: 4}, {Row: values[1:2], Count: 1}, {Row: values[3:], Count: 1}},
		indices: []int{0, 0, 1},
		key:     row(1, 1, 1),
	}
}

// bagsOf returns the result of each function that returns a bag.
func bagsOf(t *testing.T, x inputs) map[string][]api.Entry {
	t.Helper()
	a, b := x.a[:len(x.a)-1], x.b[:len(x.b)-1]
	mixed := []api.Entry{a[3], a[1], b[0], a[2], a[0], a[1]}
	results := map[string][]api.Entry{}
	keep := func(name string) func([]api.Entry, api.Errno) {
		return func(l []api.Entry, err api.Errno) {
			if err != api.OK || len(l) < 2 {
				t.Errorf("%s = %s, %d", name, show(l), err)
			}
			results[name] = l
		}
	}
	keep("Normalize of a bag")(bag.Normalize(a))
	keep("Normalize")(bag.Normalize(mixed[:5]))
	keep("Negate")(bag.Negate(a))
	keep("Distinct")(bag.Distinct(a))
	keep("Add")(bag.Add(a, b))
	keep("Add of nothing")(bag.Add(a, nil))
	keep("Add to nothing")(bag.Add(nil, a))
	keep("Subtract")(bag.Subtract(a, b))
	keep("Subtract of nothing")(bag.Subtract(a, nil))
	keep("Except")(bag.Except(a, b))
	keep("Except of nothing")(bag.Except(a, nil))
	keep("Project")(bag.Project(a, x.indices[1:2]))
	keep("Select")(bag.Select(a, x.indices[:2], x.key[:2]))
	keep("Select of everything")(bag.Select(a, nil, nil))
	return results
}

// copyOf copies a list with its rows.
func copyOf(l []api.Entry) []api.Entry {
	var b []api.Entry
	for _, e := range l {
		b = append(b, api.Entry{Row: slices.Clone(e.Row), Count: e.Count})
	}
	return b
}

// sameInputs reports whether x is as arguments returned it.
func sameInputs(x inputs) bool {
	y := arguments()
	return slices.EqualFunc(x.a, y.a, sameEntry) && slices.EqualFunc(x.b, y.b, sameEntry) && slices.Equal(x.indices, y.indices) && slices.Equal(x.key, y.key)
}

// wipe overwrites a row and its spare capacity.
func wipe(row []api.Value) {
	row = row[:cap(row)]
	for i := range row {
		row[i] = api.Value{Kind: 9}
	}
}

// R2 for P6.1 to P6.9: no function writes to its arguments or behind them.
func TestArgumentsStay(t *testing.T) {
	x := arguments()
	a, b := x.a[:4], x.b[:3]
	bag.Validate(a)
	bag.Count(a, x.key[:2])
	bag.IsTable(a)
	bag.Size(a)
	bag.Expand(b)
	bagsOf(t, x)
	if !sameInputs(x) {
		t.Errorf("%+v", x)
	}
	reversed := copyOf(x.a)
	slices.Reverse(reversed)
	l := copyOf(reversed)
	bag.Normalize(l[:4])
	bag.Validate(l[:4])
	bag.Add(l[:4], l[:4])
	if !slices.EqualFunc(l, reversed, sameEntry) {
		t.Errorf("%s, not %s", show(l), show(reversed))
	}
}

// R2 and R3 for P6.2 and P6.4 to P6.8: results share no memory with arguments
// or with other results.
func TestResultsAreNew(t *testing.T) {
	x := arguments()
	first, second := bagsOf(t, x), bagsOf(t, x)
	for name, l := range first {
		want := copyOf(l)
		for _, e := range l {
			wipe(e.Row)
		}
		clear(l[:cap(l)])
		if !sameInputs(x) {
			t.Fatalf("%s returns memory of its arguments: %+v", name, x)
		}
		if !slices.EqualFunc(second[name], want, sameEntry) {
			t.Errorf("%s returns the same memory twice", name)
		}
	}
}

// R2 for P6.2 and P6.4 to P6.8: the rows of a result share no memory.
func TestRowsAreApart(t *testing.T) {
	for name, l := range bagsOf(t, arguments()) {
		want := copyOf(l)
		for i, e := range l {
			wipe(e.Row)
			if !slices.EqualFunc(l[i+1:], want[i+1:], sameEntry) {
				t.Errorf("%s: row %d shares memory with a later one", name, i)
			}
		}
		for i, e := range want {
			if !slices.Equal(l[i].Row, slices.Repeat([]api.Value{{Kind: 9}}, len(e.Row))) {
				t.Errorf("%s: row %d became %+v", name, i, l[i].Row)
			}
		}
	}
}

// R2 for P6.9: the rows share no memory with the argument or each other, also
// where they are equal.
func TestExpandedRowsAreApart(t *testing.T) {
	x := arguments()
	rows, err := bag.Expand(x.a[:4])
	want := [][]api.Value{{}, {}, row(1), row(1), row(1, 2), row(2), row(2), row(2)}
	if err != api.OK || len(rows) != len(want) {
		t.Fatalf("%+v, %d", rows, err)
	}
	for i := range rows {
		wipe(rows[i])
		if !slices.EqualFunc(rows[i+1:], want[i+1:], slices.Equal) {
			t.Errorf("row %d shares memory with a later one", i)
		}
	}
	if !sameInputs(x) {
		t.Errorf("%+v", x)
	}
	clear(rows[:cap(rows)])
	wantRows(t, x.a[:4], want)
}
