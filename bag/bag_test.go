package bag_test

import (
	"fmt"
	"math"
	"math/rand"
	"slices"
	"strings"
	"testing"

	"warehouse/api"
	"warehouse/bag"
	"warehouse/value"
)

func null() api.Value { return api.Value{} }

func integer(n int) api.Value { return api.Value{Kind: api.Int, Num: n} }

func text(s string) api.Value { return api.Value{Kind: api.Text, Str: s} }

// row is a row of integers.
func row(l ...int) []api.Value {
	var values []api.Value
	for _, n := range l {
		values = append(values, integer(n))
	}
	return values
}

// entry is a row of integers with its count.
func entry(count int, l ...int) api.Entry { return api.Entry{Row: row(l...), Count: count} }

// many returns the rows (from) to (from + n - 1), each with the count.
func many(n, from, count int) []api.Entry {
	var l []api.Entry
	for i := range n {
		l = append(l, entry(count, from+i))
	}
	return l
}

// structs returns structs that are no values, some of every kind.
func structs() []api.Value {
	return []api.Value{
		{Num: 1}, {Str: "a"}, {Kind: api.Bool, Num: 2}, {Kind: api.Bool, Str: "a"},
		integer(api.MaxInt + 1), integer(-api.MaxInt - 1), {Kind: api.Int, Str: "a"},
		text(strings.Repeat("x", api.MaxText+1)), {Kind: api.Text, Num: 1},
		{Kind: api.Time, Num: -1}, {Kind: api.Time, Num: api.MaxTime + 1}, {Kind: api.Time, Str: "a"},
		{Kind: 5}, {Kind: 9}, {Kind: -1}, {Kind: math.MaxInt}, {Kind: math.MinInt},
	}
}

// beyond returns numbers that are beyond the limits of a count, among them
// those that are within them in 16 or 32 bits.
func beyond() []int {
	return []int{api.MaxCount + 1, -api.MaxCount - 1, 1<<17 + 1, 1 << 32, -1 << 32, 1<<32 + 1, math.MaxInt, math.MinInt, math.MinInt + 1}
}

// show prints a list, or its length if it is long.
func show(l []api.Entry) string {
	if len(l) > 20 {
		return fmt.Sprintf("%d entries", len(l))
	}
	return fmt.Sprint(l)
}

func sameEntry(a, b api.Entry) bool { return a.Count == b.Count && slices.Equal(a.Row, b.Row) }

// wantBag reports an error unless a call returned this bag.
func wantBag(t *testing.T, call string, got []api.Entry, err api.Errno, b []api.Entry) {
	t.Helper()
	if err != api.OK || !slices.EqualFunc(got, b, sameEntry) {
		t.Errorf("%s = %s, %d, not %s", call, show(got), err, show(b))
	}
}

// wantError reports an error unless a call returned this error and no bag.
func wantError(t *testing.T, call string, got []api.Entry, err, want api.Errno) {
	t.Helper()
	if err != want || len(got) > 0 {
		t.Errorf("%s = %s, %d, not %d", call, show(got), err, want)
	}
}

// wide is a row with more values than a row may have.
func wide() []api.Value { return make([]api.Value, api.MaxColumns+1) }

// broken is a list that is no bag, and the error of Validate for it.
type broken struct {
	l   []api.Entry
	err api.Errno
}

// brokenBags returns lists that are no bags for one or several reasons.
func brokenBags() []broken {
	bad := []api.Value{{Kind: 9}}
	l := []broken{
		{many(api.MaxEntries+1, 0, 1), api.ErrLimit},
		{many(4*api.MaxEntries, 0, 1), api.ErrLimit},
		{[]api.Entry{{Row: wide(), Count: 1}}, api.ErrLimit},
		{[]api.Entry{{Row: make([]api.Value, 300), Count: 1}}, api.ErrLimit},
		{[]api.Entry{entry(0)}, api.ErrShape},
		{[]api.Entry{entry(0, 1)}, api.ErrShape},
		{[]api.Entry{entry(1), entry(1)}, api.ErrOrder},
		{[]api.Entry{entry(1, 1), entry(1, 1)}, api.ErrOrder},
		{[]api.Entry{entry(1, 1), entry(-1, 1)}, api.ErrOrder},
		{[]api.Entry{entry(1, 2), entry(1, 1)}, api.ErrOrder},
		{[]api.Entry{entry(1, 1), entry(2)}, api.ErrOrder},
		{[]api.Entry{entry(1, 1, 1), entry(2, 1)}, api.ErrOrder},
		{[]api.Entry{entry(1, 1), {Row: []api.Value{null()}, Count: 1}}, api.ErrOrder},
		{[]api.Entry{{Row: []api.Value{text("b")}, Count: 1}, {Row: []api.Value{text("ab")}, Count: 1}}, api.ErrOrder},
		{[]api.Entry{{Row: []api.Value{text("")}, Count: 1}, entry(1, 7)}, api.ErrOrder},
		{[]api.Entry{entry(1, 1), entry(1, 3), entry(1, 2), entry(1, 4)}, api.ErrOrder},
		{append(many(api.MaxEntries-1, 0, 1), entry(1, -1)), api.ErrOrder},
		// All errors of an entry come before those of the next one, and the
		// number of entries before everything.
		{append(many(api.MaxEntries, 1, 1), entry(1)), api.ErrLimit},
		{append([]api.Entry{{Row: bad}}, many(api.MaxEntries, 1, 0)...), api.ErrLimit},
		{[]api.Entry{{Row: append(bad, wide()...), Count: 0}}, api.ErrLimit},
		{[]api.Entry{{Row: bad, Count: api.MaxCount + 1}}, api.ErrLimit},
		{[]api.Entry{{Row: bad}}, api.ErrShape},
		{[]api.Entry{{Row: bad, Count: 1}, {Row: wide(), Count: 1}}, api.ErrShape},
		{[]api.Entry{entry(0, 1), {Row: wide(), Count: 1}}, api.ErrShape},
		{[]api.Entry{{Row: wide(), Count: 1}, {Row: bad, Count: 1}}, api.ErrLimit},
		{[]api.Entry{entry(1, 2), {Row: wide(), Count: 1}}, api.ErrLimit},
		{[]api.Entry{entry(1, 2), entry(api.MaxCount+1, 1)}, api.ErrLimit},
		{[]api.Entry{entry(1, 2), {Row: []api.Value{{Kind: -1}}, Count: 1}}, api.ErrShape},
		{[]api.Entry{entry(1, 2), entry(0, 1)}, api.ErrShape},
		{[]api.Entry{entry(1, 2), entry(0, 2)}, api.ErrShape},
		{[]api.Entry{entry(1, 2), entry(1, 1), entry(0, 5)}, api.ErrOrder},
		{[]api.Entry{entry(1, 2), entry(1, 1), {Row: wide(), Count: 1}}, api.ErrOrder},
		{[]api.Entry{entry(1, 2), entry(1, 2), {Row: bad, Count: 1}}, api.ErrOrder},
		{[]api.Entry{entry(0, 2), entry(1, 1)}, api.ErrShape},
	}
	for _, n := range beyond() {
		l = append(l, broken{[]api.Entry{entry(n, 1)}, api.ErrLimit}, broken{[]api.Entry{entry(1), entry(n, 1)}, api.ErrLimit})
	}
	for _, v := range structs() {
		l = append(l, broken{[]api.Entry{{Row: []api.Value{v}, Count: 1}}, api.ErrShape}, broken{[]api.Entry{entry(1), {Row: []api.Value{integer(1), v}, Count: 1}}, api.ErrShape})
	}
	return l
}

// bags returns bags, some of which are no tables.
func bags() [][]api.Entry {
	return [][]api.Entry{
		nil, {}, {entry(1)}, {entry(-1)}, {{Row: []api.Value{}, Count: 3}}, {entry(1, 1)}, {entry(-1, 1)},
		{entry(1), entry(-2, 1), entry(api.MaxCount, 1, 2), entry(-api.MaxCount, 2)},
		{{Row: wide()[1:], Count: 1}}, {{Row: wide()[1:], Count: api.MaxCount}}, {{Row: wide()[1:], Count: -api.MaxCount}},
		{entry(1), {Row: []api.Value{null()}, Count: 2}, {Row: []api.Value{null(), null()}, Count: 3}, {Row: []api.Value{{Kind: api.Bool}}, Count: 4}, {Row: []api.Value{{Kind: api.Bool, Num: 1}}, Count: 5}, entry(6, -5), {Row: []api.Value{text("")}, Count: 7}, {Row: []api.Value{text(strings.Repeat("x", api.MaxText))}, Count: 8}, {Row: []api.Value{{Kind: api.Time}}, Count: 9}},
		many(api.MaxEntries, -5, 1), many(api.MaxEntries, 0, api.MaxCount), many(api.MaxEntries, 0, -api.MaxCount), many(api.MaxEntries-1, 0, 1),
	}
}

// P6.1
func TestValidateAcceptsBags(t *testing.T) {
	for _, b := range bags() {
		if err := bag.Validate(b); err != api.OK {
			t.Errorf("Validate(%s) = %d", show(b), err)
		}
	}
}

// P6.1: each error, and the order of the errors.
func TestValidateRejectsOtherLists(t *testing.T) {
	for _, x := range brokenBags() {
		if err := bag.Validate(x.l); err != x.err {
			t.Errorf("Validate(%s) = %d, not %d", show(x.l), err, x.err)
		}
	}
}

// P6.1: a row has at most MaxColumns values, and a count is from -MaxCount to
// MaxCount and not 0.
func TestValidateCounts(t *testing.T) {
	for n := range 2 * api.MaxColumns {
		want := api.OK
		if n > api.MaxColumns {
			want = api.ErrLimit
		}
		if err := bag.Validate([]api.Entry{{Row: make([]api.Value, n), Count: 1}}); err != want {
			t.Errorf("%d values: %d", n, err)
		}
	}
	for n := -api.MaxCount - 9; n <= api.MaxCount+9; n++ {
		want := api.OK
		switch {
		case n < -api.MaxCount || n > api.MaxCount:
			want = api.ErrLimit
		case n == 0:
			want = api.ErrShape
		}
		if err := bag.Validate([]api.Entry{entry(n, 1)}); err != want {
			t.Errorf("the count %d: %d", n, err)
		}
	}
}

// P6.1: one value that is not valid, at every place of every entry.
func TestValidateLooksAtAllValues(t *testing.T) {
	for i := range 4 {
		for k := range api.MaxColumns {
			var b []api.Entry
			for n := range 4 {
				b = append(b, api.Entry{Row: slices.Repeat(row(n), api.MaxColumns), Count: 1})
			}
			if err := bag.Validate(b); err != api.OK {
				t.Fatal(err)
			}
			b[i].Row[k].Str = "a"
			if err := bag.Validate(b); err != api.ErrShape {
				t.Errorf("value %d of entry %d: %d", k, i, err)
			}
		}
	}
}

// P6.3
func TestCount(t *testing.T) {
	b := []api.Entry{entry(4), entry(3, 1), entry(-2, 1, 5), entry(1, 2), entry(api.MaxCount, 3), entry(-api.MaxCount, 4)}
	for _, e := range b {
		if n := bag.Count(b, e.Row); n != e.Count {
			t.Errorf("Count of %v = %d", e.Row, n)
		}
	}
	for _, r := range [][]api.Value{row(0), row(5), row(1, 4), row(1, 6), row(1, 5, 0), row(5, 1), {null()}, {{Kind: api.Time, Num: 1}}, {{Kind: api.Bool, Num: 1}}, {{Kind: api.Int, Num: 1, Str: "a"}}, {text("")}} {
		if n := bag.Count(b, r); n != 0 {
			t.Errorf("Count of %v = %d", r, n)
		}
	}
	for _, b := range bags() {
		for _, e := range b[:min(len(b), 50)] {
			if n := bag.Count(b, e.Row); n != e.Count {
				t.Errorf("Count of %v in %s = %d", e.Row, show(b), n)
			}
		}
	}
}

// P6.3: Count takes the first of several entries, in lists that are no bags.
func TestCountOfLists(t *testing.T) {
	odd := []api.Value{{Kind: 9, Num: -1, Str: "x"}}
	l := []api.Entry{entry(7, 2), entry(8, 1), entry(9, 2), entry(0, 3), entry(5, 3), entry(math.MinInt, 4), {Row: odd, Count: math.MaxInt}, {Row: wide(), Count: -9}, entry(6), {Row: []api.Value{}, Count: 11}}
	for _, x := range []struct {
		row   []api.Value
		count int
	}{
		{row(2), 7}, {row(1), 8}, {row(3), 0}, {row(4), math.MinInt}, {odd, math.MaxInt}, {wide(), -9}, {wide()[1:], 0}, {nil, 6}, {[]api.Value{}, 6},
	} {
		if n := bag.Count(l, x.row); n != x.count {
			t.Errorf("Count of %v = %d, not %d", x.row, n, x.count)
		}
	}
	if n := bag.Count(nil, nil); n != 0 {
		t.Errorf("Count(nil, nil) = %d", n)
	}
	if n := bag.Count([]api.Entry{}, row(1)); n != 0 {
		t.Errorf("Count of an empty list = %d", n)
	}
	if n := bag.Count(many(2*api.MaxEntries, 0, 3), row(2*api.MaxEntries-1)); n != 3 {
		t.Errorf("Count of a long list = %d", n)
	}
}

// P6.3: a table is a bag without negative counts.
func TestIsTable(t *testing.T) {
	for _, b := range bags() {
		want := true
		for _, e := range b {
			want = want && e.Count > 0
		}
		if bag.IsTable(b) != want {
			t.Errorf("IsTable(%s) is %t", show(b), !want)
		}
	}
	for i := range 20 {
		b := many(20, 0, 2)
		b[i].Count = -1
		if bag.IsTable(b) {
			t.Errorf("entry %d is negative", i)
		}
	}
}

// P6.3: a list that is no bag is no table.
func TestIsTableOfOtherLists(t *testing.T) {
	for _, x := range brokenBags() {
		if bag.IsTable(x.l) {
			t.Errorf("IsTable(%s) is true", show(x.l))
		}
	}
}

// P6.4
func TestSize(t *testing.T) {
	for _, b := range bags() {
		want := 0
		for _, e := range b {
			want += e.Count
		}
		if n, err := bag.Size(b); n != want || err != api.OK {
			t.Errorf("Size(%s) = %d, %d, not %d", show(b), n, err, want)
		}
	}
	if n, err := bag.Size([]api.Entry{entry(3, 1), entry(-5, 2), entry(1, 4)}); n != -1 || err != api.OK {
		t.Errorf("Size = %d, %d", n, err)
	}
	if n, err := bag.Size(many(api.MaxEntries, 0, api.MaxCount)); n != api.MaxEntries*api.MaxCount || err != api.OK {
		t.Errorf("the greatest Size = %d, %d", n, err)
	}
	for _, x := range brokenBags() {
		if n, err := bag.Size(x.l); n != 0 || err != x.err {
			t.Errorf("Size(%s) = %d, %d, not %d", show(x.l), n, err, x.err)
		}
	}
}

// P6.4
func TestDistinct(t *testing.T) {
	for _, b := range bags() {
		var want []api.Entry
		for _, e := range b {
			if e.Count > 0 {
				want = append(want, api.Entry{Row: e.Row, Count: 1})
			}
		}
		got, err := bag.Distinct(b)
		wantBag(t, "Distinct("+show(b)+")", got, err, want)
	}
	got, err := bag.Distinct([]api.Entry{entry(2), entry(-7, 1), entry(1, 1, 5), entry(-1, 2), entry(9, 3)})
	wantBag(t, "Distinct", got, err, []api.Entry{entry(1), entry(1, 1, 5), entry(1, 3)})
	for _, x := range brokenBags() {
		got, err := bag.Distinct(x.l)
		wantError(t, "Distinct("+show(x.l)+")", got, err, x.err)
	}
}

// wantRows reports an error unless Expand of b is this list of rows.
func wantRows(t *testing.T, b []api.Entry, rows [][]api.Value) {
	t.Helper()
	got, err := bag.Expand(b)
	if err != api.OK || !slices.EqualFunc(got, rows, slices.Equal) {
		t.Errorf("Expand(%s) = %d rows, %d, not %d", show(b), len(got), err, len(rows))
	}
}

// wantNoRows reports an error unless Expand of b returns this error.
func wantNoRows(t *testing.T, b []api.Entry, want api.Errno) {
	t.Helper()
	if got, err := bag.Expand(b); err != want || len(got) > 0 {
		t.Errorf("Expand(%s) = %d rows, %d, not %d", show(b), len(got), err, want)
	}
}

// P6.9
func TestExpand(t *testing.T) {
	wantRows(t, nil, nil)
	wantRows(t, []api.Entry{}, nil)
	wantRows(t, []api.Entry{entry(2)}, [][]api.Value{{}, {}})
	wantRows(t, []api.Entry{entry(2, 1), entry(1, 3)}, [][]api.Value{row(1), row(1), row(3)})
	wantRows(t, []api.Entry{entry(1), entry(3, 1), entry(2, 1, 7), entry(1, 2)}, [][]api.Value{nil, row(1), row(1), row(1), row(1, 7), row(1, 7), row(2)})
}

// P6.9: a table has at most MaxRows rows, in one entry or many.
func TestExpandLimits(t *testing.T) {
	wantRows(t, []api.Entry{entry(api.MaxRows, 1)}, slices.Repeat([][]api.Value{row(1)}, api.MaxRows))
	wantRows(t, []api.Entry{entry(1, 1), entry(api.MaxRows-1, 2)}, append([][]api.Value{row(1)}, slices.Repeat([][]api.Value{row(2)}, api.MaxRows-1)...))
	var rows [][]api.Value
	for i := range api.MaxRows {
		rows = append(rows, row(i))
	}
	wantRows(t, many(api.MaxRows, 0, 1), rows)
	wantNoRows(t, []api.Entry{entry(api.MaxRows+1, 1)}, api.ErrLimit)
	wantNoRows(t, []api.Entry{entry(api.MaxRows, 1), entry(1, 2)}, api.ErrLimit)
	wantNoRows(t, []api.Entry{entry(api.MaxCount, 1)}, api.ErrLimit)
	wantNoRows(t, many(api.MaxEntries, 0, 2), api.ErrLimit)
	wantNoRows(t, many(api.MaxEntries, 0, api.MaxCount), api.ErrLimit)
}

// P6.9: the error of Validate, then ErrShape, then ErrLimit.
func TestExpandErrors(t *testing.T) {
	for _, x := range brokenBags() {
		wantNoRows(t, x.l, x.err)
	}
	wantNoRows(t, []api.Entry{entry(-1)}, api.ErrShape)
	wantNoRows(t, []api.Entry{entry(2, 1), entry(-1, 3)}, api.ErrShape)
	wantNoRows(t, []api.Entry{entry(-1, 1), entry(2, 3)}, api.ErrShape)
	wantNoRows(t, []api.Entry{entry(api.MaxRows+1, 1), entry(-1, 2)}, api.ErrShape)
	wantNoRows(t, []api.Entry{entry(-1, 1), entry(api.MaxCount, 2)}, api.ErrShape)
	wantNoRows(t, []api.Entry{entry(-1, 2), entry(api.MaxCount, 1)}, api.ErrOrder)
	wantNoRows(t, []api.Entry{entry(api.MaxCount, 1), entry(api.MaxCount, 1)}, api.ErrOrder)
	wantNoRows(t, []api.Entry{entry(-1, 2), entry(api.MaxCount+1, 3)}, api.ErrLimit)
}

// randomList returns up to n entries of few different rows, in any order.
func randomList(random *rand.Rand, n int) []api.Entry {
	values := []api.Value{null(), {Kind: api.Bool, Num: 1}, integer(-1), integer(2), text("a"), {Kind: api.Time, Num: 2}}
	l := make([]api.Entry, random.Intn(n+1))
	for i := range l {
		for range random.Intn(4) {
			l[i].Row = append(l[i].Row, values[random.Intn(len(values))])
		}
		l[i].Count = random.Intn(9) - 4
	}
	return l
}

// totals adds up the counts of the rows of a list, one by one.
func totals(l []api.Entry) []api.Entry {
	var sums []api.Entry
	for _, e := range l {
		i := slices.IndexFunc(sums, func(s api.Entry) bool { return slices.Equal(s.Row, e.Row) })
		if i < 0 {
			sums = append(sums, api.Entry{Row: slices.Clone(e.Row), Count: e.Count})
		} else {
			sums[i].Count += e.Count
		}
	}
	return ordered(sums)
}

// ordered returns the entries of a list of different rows whose counts are not
// 0, in ascending order.
func ordered(l []api.Entry) []api.Entry {
	var b []api.Entry
	for _, e := range l {
		if e.Count == 0 {
			continue
		}
		i := 0
		for i < len(b) && value.CompareRows(b[i].Row, e.Row) < 0 {
			i++
		}
		b = slices.Insert(b, i, e)
	}
	return b
}
