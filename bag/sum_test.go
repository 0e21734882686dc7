package bag_test

import (
	"fmt"
	"math/rand"
	"slices"
	"testing"

	"warehouse/api"
	"warehouse/bag"
)

// wantNormalized reports an error unless Normalize of a list is this bag.
func wantNormalized(t *testing.T, l, b []api.Entry) {
	t.Helper()
	got, err := bag.Normalize(l)
	wantBag(t, "Normalize("+show(l)+")", got, err, b)
}

// wantNotNormalized reports an error unless Normalize of a list returns this
// error.
func wantNotNormalized(t *testing.T, l []api.Entry, want api.Errno) {
	t.Helper()
	got, err := bag.Normalize(l)
	wantError(t, "Normalize("+show(l)+")", got, err, want)
}

// P6.2: the chapter's example 1.
func TestNormalizeExample(t *testing.T) {
	wantNormalized(t, []api.Entry{entry(2, 1), entry(1, 2), entry(-2, 1)}, []api.Entry{entry(1, 2)})
}

// P6.2: entries in any order, equal rows and the count 0.
func TestNormalize(t *testing.T) {
	wantNormalized(t, nil, nil)
	wantNormalized(t, []api.Entry{}, nil)
	wantNormalized(t, []api.Entry{entry(0)}, nil)
	wantNormalized(t, []api.Entry{entry(0, 1), entry(0, 1), entry(0)}, nil)
	wantNormalized(t, []api.Entry{entry(1), {Row: []api.Value{}, Count: 2}}, []api.Entry{entry(3)})
	wantNormalized(t, []api.Entry{entry(0, 5), entry(1, 3), entry(4, 2, 1), entry(1, 2), entry(-5, 3)}, []api.Entry{entry(1, 2), entry(4, 2, 1), entry(-4, 3)})
	wantNormalized(t, []api.Entry{{Row: []api.Value{text("a")}, Count: 1}, entry(1, 1), {Row: []api.Value{null()}, Count: 1}, entry(1), entry(1, 1, 1), entry(1, 0)}, []api.Entry{entry(1), {Row: []api.Value{null()}, Count: 1}, entry(1, 0), entry(1, 1), entry(1, 1, 1), {Row: []api.Value{text("a")}, Count: 1}})
	for _, b := range bags() {
		wantNormalized(t, b, b)
		l := slices.Clone(b)
		slices.Reverse(l)
		wantNormalized(t, l, b)
	}
}

// P6.2: all orders of a few entries.
func TestNormalizeInAnyOrder(t *testing.T) {
	l := []api.Entry{entry(2, 1), entry(-3, 1), entry(0, 1), entry(5, 1, 1), entry(1, 2), entry(-1, 2)}
	b := []api.Entry{entry(-1, 1), entry(5, 1, 1)}
	var permute func(k int)
	permute = func(k int) {
		if k == len(l) {
			wantNormalized(t, l, b)
		}
		for i := k; i < len(l); i++ {
			l[k], l[i] = l[i], l[k]
			permute(k + 1)
			l[k], l[i] = l[i], l[k]
		}
	}
	permute(0)
}

// P6.2: random lists, added up one by one.
func TestNormalizeRandomLists(t *testing.T) {
	random := rand.New(rand.NewSource(1))
	for range 3000 {
		l := randomList(random, 40)
		wantNormalized(t, l, totals(l))
	}
}

// P6.2: only the sums are within the limits of a bag; on the way they need not
// be.
func TestNormalizeLimits(t *testing.T) {
	full, one, less := entry(api.MaxCount, 1), entry(1, 1), entry(-1, 1)
	wantNormalized(t, []api.Entry{full}, []api.Entry{full})
	wantNormalized(t, []api.Entry{entry(-api.MaxCount, 1)}, []api.Entry{entry(-api.MaxCount, 1)})
	wantNotNormalized(t, []api.Entry{full, one}, api.ErrLimit)
	wantNotNormalized(t, []api.Entry{entry(-api.MaxCount, 1), less}, api.ErrLimit)
	wantNormalized(t, []api.Entry{full, one, less}, []api.Entry{full})
	wantNormalized(t, []api.Entry{less, one, full}, []api.Entry{full})
	wantNormalized(t, []api.Entry{one, full, less}, []api.Entry{full})
	wantNotNormalized(t, []api.Entry{entry(1, 2), full, one, entry(-1, 2)}, api.ErrLimit)
	half := slices.Repeat([]api.Entry{full}, 1<<16)
	wantNotNormalized(t, half, api.ErrLimit)
	wantNotNormalized(t, append(half, one), api.ErrLimit)
	wantNormalized(t, slices.Concat(half, slices.Repeat([]api.Entry{entry(-api.MaxCount, 1)}, 1<<16), []api.Entry{less}), []api.Entry{less})
}

// P6.2: only the result has at most MaxEntries entries.
func TestNormalizeManyEntries(t *testing.T) {
	wantNormalized(t, many(api.MaxEntries, 0, 1), many(api.MaxEntries, 0, 1))
	wantNotNormalized(t, many(api.MaxEntries+1, 0, 1), api.ErrLimit)
	wantNotNormalized(t, many(api.MaxEntries+1, 0, -1), api.ErrLimit)
	wantNormalized(t, append(many(api.MaxEntries+1, 0, 1), entry(-1, 7)), append(many(7, 0, 1), many(api.MaxEntries-7, 8, 1)...))
	wantNormalized(t, append(many(api.MaxEntries, 0, 1), entry(0, -1)), many(api.MaxEntries, 0, 1))
	wantNormalized(t, many(4*api.MaxEntries, 0, 0), nil)
	wantNormalized(t, slices.Concat(many(3*api.MaxEntries, 0, 5), many(3*api.MaxEntries-1, 1, -5)), []api.Entry{entry(5, 0)})
	wantNormalized(t, slices.Repeat([]api.Entry{entry(1, 1)}, api.MaxCount), []api.Entry{entry(api.MaxCount, 1)})
	wantNotNormalized(t, slices.Repeat([]api.Entry{entry(1, 1)}, api.MaxCount+1), api.ErrLimit)
}

// P6.2: the errors of each entry.
func TestNormalizeErrors(t *testing.T) {
	bad := []api.Value{{Kind: 9}}
	for _, n := range beyond() {
		wantNotNormalized(t, []api.Entry{entry(n, 1)}, api.ErrLimit)
		wantNotNormalized(t, []api.Entry{entry(1, 2), entry(n, 1)}, api.ErrLimit)
		wantNotNormalized(t, []api.Entry{{Row: bad, Count: n}}, api.ErrLimit)
		wantNotNormalized(t, []api.Entry{entry(-api.MaxCount, 1), entry(n, 1), entry(-1, 1)}, api.ErrLimit)
	}
	for _, v := range structs() {
		for _, count := range []int{1, 0, -1} {
			e := api.Entry{Row: []api.Value{integer(1), v}, Count: count}
			wantNotNormalized(t, []api.Entry{e}, api.ErrShape)
			wantNotNormalized(t, []api.Entry{entry(1, 2), e}, api.ErrShape)
		}
	}
	for _, count := range []int{1, 0, -1} {
		e := api.Entry{Row: wide()[1:], Count: count}
		wantNormalized(t, []api.Entry{e}, ordered([]api.Entry{e}))
		wantNotNormalized(t, []api.Entry{{Row: wide(), Count: count}}, api.ErrLimit)
		wantNotNormalized(t, []api.Entry{entry(1, 1), {Row: wide(), Count: count}}, api.ErrLimit)
	}
}

// P6.2: the errors of an entry come before those of the next one (R6), and all
// of them before that of the result.
func TestNormalizeOrdersErrors(t *testing.T) {
	bad := api.Entry{Row: []api.Value{{Kind: 9}}, Count: 1}
	long := api.Entry{Row: append(wide(), bad.Row...), Count: 1}
	wantNotNormalized(t, []api.Entry{long}, api.ErrLimit)
	wantNotNormalized(t, []api.Entry{bad, long}, api.ErrShape)
	wantNotNormalized(t, []api.Entry{long, bad}, api.ErrLimit)
	wantNotNormalized(t, []api.Entry{bad, entry(api.MaxCount+1, 1)}, api.ErrShape)
	wantNotNormalized(t, []api.Entry{entry(api.MaxCount+1, 1), bad}, api.ErrLimit)
	wantNotNormalized(t, []api.Entry{entry(api.MaxCount, 1), entry(1, 1), bad}, api.ErrShape)
	wantNotNormalized(t, append(many(api.MaxEntries+1, 0, 1), bad), api.ErrShape)
}

// P6.4
func TestNegate(t *testing.T) {
	got, err := bag.Negate([]api.Entry{entry(3, 1), entry(-2, 1, 5), entry(1, 2)})
	wantBag(t, "Negate", got, err, []api.Entry{entry(-3, 1), entry(2, 1, 5), entry(-1, 2)})
	for _, b := range bags() {
		var want []api.Entry
		for _, e := range b {
			want = append(want, api.Entry{Row: e.Row, Count: -e.Count})
		}
		got, err := bag.Negate(b)
		wantBag(t, "Negate("+show(b)+")", got, err, want)
	}
	for _, x := range brokenBags() {
		got, err := bag.Negate(x.l)
		wantError(t, "Negate("+show(x.l)+")", got, err, x.err)
	}
}

// wantSums reports errors unless Add and Subtract of a and b are these bags; a
// bag of the count 0 stands for ErrLimit.
func wantSums(t *testing.T, a, b, sum, difference []api.Entry) {
	t.Helper()
	arguments := "(" + show(a) + ", " + show(b) + ")"
	for _, x := range []struct {
		name string
		f    func(a, b []api.Entry) ([]api.Entry, api.Errno)
		want []api.Entry
	}{{"Add", bag.Add, sum}, {"Subtract", bag.Subtract, difference}} {
		got, err := x.f(a, b)
		if len(x.want) == 1 && x.want[0].Count == 0 {
			wantError(t, x.name+arguments, got, err, api.ErrLimit)
		} else {
			wantBag(t, x.name+arguments, got, err, x.want)
		}
	}
}

// P6.5: the chapter's examples 2 and 3.
func TestSumExamples(t *testing.T) {
	for _, b := range bags() {
		negative, err := bag.Negate(b)
		if err != api.OK {
			t.Fatal(err)
		}
		got, err := bag.Add(b, negative)
		wantBag(t, "Add of a bag and its Negate", got, err, nil)
		got, err = bag.Subtract(b, b)
		wantBag(t, "Subtract of a bag and itself", got, err, nil)
	}
	got, err := bag.Subtract([]api.Entry{entry(1, 1)}, []api.Entry{entry(3, 1)})
	wantBag(t, "Subtract", got, err, []api.Entry{entry(-2, 1)})
	// Example 4 of DOC.md.
	got, err = bag.Subtract([]api.Entry{entry(2, 1), entry(1, 2)}, []api.Entry{entry(1, 1)})
	wantBag(t, "Subtract", got, err, []api.Entry{entry(1, 1), entry(1, 2)})
}

// P6.5
func TestSums(t *testing.T) {
	a := []api.Entry{entry(1, 1), entry(2, 2), entry(-1, 4)}
	b := []api.Entry{entry(3, 0), entry(-2, 2), entry(5, 4), entry(1, 9)}
	wantSums(t, a, b, []api.Entry{entry(3, 0), entry(1, 1), entry(4, 4), entry(1, 9)}, []api.Entry{entry(-3, 0), entry(1, 1), entry(4, 2), entry(-6, 4), entry(-1, 9)})
	wantSums(t, b, a, []api.Entry{entry(3, 0), entry(1, 1), entry(4, 4), entry(1, 9)}, []api.Entry{entry(3, 0), entry(-1, 1), entry(-4, 2), entry(6, 4), entry(1, 9)})
	wantSums(t, nil, nil, nil, nil)
	wantSums(t, []api.Entry{}, nil, nil, nil)
	wantSums(t, []api.Entry{entry(1)}, []api.Entry{{Row: []api.Value{}, Count: 4}}, []api.Entry{entry(5)}, []api.Entry{entry(-3)})
	wantSums(t, []api.Entry{entry(1, 1)}, []api.Entry{entry(1, 1, 1)}, []api.Entry{entry(1, 1), entry(1, 1, 1)}, []api.Entry{entry(1, 1), entry(-1, 1, 1)})
	nulls := []api.Entry{{Row: []api.Value{null()}, Count: 2}}
	wantSums(t, nulls, nulls, []api.Entry{{Row: []api.Value{null()}, Count: 4}}, nil)
	for _, b := range bags() {
		negative, _ := bag.Negate(b)
		wantSums(t, b, nil, b, b)
		wantSums(t, nil, b, b, negative)
	}
}

// P6.5: random bags, added up one by one.
func TestSumsOfRandomBags(t *testing.T) {
	random := rand.New(rand.NewSource(2))
	for range 3000 {
		a, b := totals(randomList(random, 40)), totals(randomList(random, 40))
		var negative []api.Entry
		for _, e := range b {
			negative = append(negative, api.Entry{Row: e.Row, Count: -e.Count})
		}
		wantSums(t, a, b, totals(slices.Concat(a, b)), totals(slices.Concat(a, negative)))
	}
}

// P6.5: counts of results that are too great, and the greatest ones.
func TestGreatSums(t *testing.T) {
	const most = api.MaxCount
	limit := []api.Entry{{}}
	at := func(n int) []api.Entry { return []api.Entry{entry(n, 1)} }
	wantSums(t, at(most), at(1), limit, at(most-1))
	wantSums(t, at(most), at(-1), at(most-1), limit)
	wantSums(t, at(-most), at(1), at(1-most), limit)
	wantSums(t, at(-most), at(-1), limit, at(1-most))
	wantSums(t, at(most-1), at(1), at(most), at(most-2))
	wantSums(t, at(1-most), at(1), at(2-most), at(-most))
	wantSums(t, at(most), at(most), limit, nil)
	wantSums(t, at(most), at(-most), nil, limit)
	wantSums(t, at(-most), at(most), nil, limit)
	wantSums(t, at(1), at(most), limit, at(1-most))
	a, b := append(at(1), entry(most, 2), entry(1, 3)), append(at(2), entry(1, 2), entry(2, 3))
	wantSums(t, a, b, limit, []api.Entry{entry(-1, 1), entry(most-1, 2), entry(-1, 3)})
}

// P6.5: results with too many entries, and those that have them only on the
// way.
func TestLongSums(t *testing.T) {
	limit := []api.Entry{{}}
	full := many(api.MaxEntries, 0, 1)
	got, err := bag.Add(full, []api.Entry{entry(1, -1)})
	wantError(t, "Add", got, err, api.ErrLimit)
	wantSums(t, full, []api.Entry{entry(1, api.MaxEntries)}, limit, limit)
	wantSums(t, []api.Entry{entry(1, -1)}, full, limit, limit)
	wantSums(t, full, many(api.MaxEntries, api.MaxEntries, 1), limit, limit)
	wantSums(t, full[:api.MaxEntries/2], many(api.MaxEntries/2, api.MaxEntries, 1), append(full[:api.MaxEntries/2:api.MaxEntries/2], many(api.MaxEntries/2, api.MaxEntries, 1)...), append(full[:api.MaxEntries/2:api.MaxEntries/2], many(api.MaxEntries/2, api.MaxEntries, -1)...))
	wantSums(t, full, full, many(api.MaxEntries, 0, 2), nil)
	got, err = bag.Add(full, []api.Entry{entry(1, -1), entry(-1, api.MaxEntries-1)})
	wantBag(t, "Add of a row instead of the last one", got, err, append([]api.Entry{entry(1, -1)}, full[:api.MaxEntries-1]...))
	got, err = bag.Subtract(full, []api.Entry{entry(-1, -1), entry(1, api.MaxEntries-1)})
	wantBag(t, "Subtract of the last row", got, err, append([]api.Entry{entry(1, -1)}, full[:api.MaxEntries-1]...))
	got, err = bag.Add(full, []api.Entry{entry(-1, 3)})
	wantBag(t, "Add of a negative row", got, err, append(many(3, 0, 1), many(api.MaxEntries-4, 4, 1)...))
}

// P6.5: the error of Validate for a, then that for b, then that of the result.
func TestErrorsOfSums(t *testing.T) {
	full, b := many(api.MaxEntries, 0, api.MaxCount), []api.Entry{entry(1, 5), entry(1, api.MaxEntries)}
	for _, f := range []func(a, b []api.Entry) ([]api.Entry, api.Errno){bag.Add, bag.Subtract} {
		for i, x := range brokenBags() {
			call := fmt.Sprintf("list %d: %s", i, show(x.l))
			for _, other := range [][]api.Entry{nil, b, full, {entry(-1, 1)}} {
				got, err := f(x.l, other)
				wantError(t, call+" first", got, err, x.err)
				got, err = f(other, x.l)
				wantError(t, call+" second", got, err, x.err)
			}
			for _, y := range brokenBags() {
				got, err := f(x.l, y.l)
				wantError(t, call+" before "+show(y.l), got, err, x.err)
			}
		}
	}
	late := []api.Entry{entry(1, 5), entry(-1, 6), entry(1, api.MaxEntries), entry(1, api.MaxEntries)}
	got, err := bag.Add(full, late)
	wantError(t, "Add", got, err, api.ErrOrder)
	got, err = bag.Subtract(full, late)
	wantError(t, "Subtract", got, err, api.ErrOrder)
}

// wantExcept reports an error unless Except of a and b is this table.
func wantExcept(t *testing.T, a, b, table []api.Entry) {
	t.Helper()
	got, err := bag.Except(a, b)
	wantBag(t, "Except("+show(a)+", "+show(b)+")", got, err, table)
}

// P6.6: the chapter's example 3.
func TestExceptExample(t *testing.T) {
	wantExcept(t, []api.Entry{entry(1, 1)}, []api.Entry{entry(3, 1)}, nil)
}

// P6.6
func TestExcept(t *testing.T) {
	a := []api.Entry{entry(1, 1), entry(5, 2), entry(2, 4)}
	b := []api.Entry{entry(3, 0), entry(3, 1), entry(2, 2), entry(2, 4), entry(1, 9)}
	wantExcept(t, a, b, []api.Entry{entry(3, 2)})
	wantExcept(t, b, a, []api.Entry{entry(3, 0), entry(2, 1), entry(1, 9)})
	wantExcept(t, a, nil, a)
	wantExcept(t, nil, b, nil)
	wantExcept(t, nil, nil, nil)
	wantExcept(t, []api.Entry{}, []api.Entry{}, nil)
	wantExcept(t, []api.Entry{entry(4)}, []api.Entry{{Row: []api.Value{}, Count: 1}}, []api.Entry{entry(3)})
	nulls := []api.Entry{{Row: []api.Value{null()}, Count: 2}}
	wantExcept(t, nulls, nulls, nil)
	at := func(n int) []api.Entry { return []api.Entry{entry(n, 1)} }
	wantExcept(t, at(api.MaxCount), at(1), at(api.MaxCount-1))
	wantExcept(t, at(1), at(api.MaxCount), nil)
	wantExcept(t, at(api.MaxCount), at(api.MaxCount), nil)
	wantExcept(t, at(api.MaxCount), nil, at(api.MaxCount))
}

// P6.6: a table has no more rows than a, however many others b has.
func TestExceptOfManyRows(t *testing.T) {
	full := many(api.MaxEntries, 0, 2)
	wantExcept(t, full, []api.Entry{entry(1, api.MaxEntries)}, full)
	wantExcept(t, full, []api.Entry{entry(1, -1)}, full)
	wantExcept(t, full, many(api.MaxEntries, api.MaxEntries, 1), full)
	wantExcept(t, full, many(api.MaxEntries, 1, api.MaxCount), full[:1])
	wantExcept(t, full, many(api.MaxEntries, 0, 1), many(api.MaxEntries, 0, 1))
	wantExcept(t, full, full, nil)
}

// P6.6: random tables, against the positive counts of the difference.
func TestExceptOfRandomTables(t *testing.T) {
	random := rand.New(rand.NewSource(3))
	isNegative := func(e api.Entry) bool { return e.Count < 0 }
	for range 3000 {
		a := slices.DeleteFunc(totals(randomList(random, 40)), isNegative)
		b := slices.DeleteFunc(totals(randomList(random, 40)), isNegative)
		l := slices.Clone(a)
		for _, e := range b {
			l = append(l, api.Entry{Row: e.Row, Count: -e.Count})
		}
		wantExcept(t, a, b, slices.DeleteFunc(totals(l), isNegative))
	}
}

// P6.6: the error of Validate for a, then that for b, then ErrShape.
func TestExceptErrors(t *testing.T) {
	table, other := []api.Entry{entry(1, 1), entry(2, 2)}, []api.Entry{entry(1, 1), entry(-2, 2)}
	for _, x := range [][2][]api.Entry{{table, other}, {other, table}, {other, other}, {other, nil}, {nil, other}, {{entry(-1)}, nil}, {nil, {entry(-api.MaxCount, 1)}}, {{entry(-1, 1), entry(1, 2)}, table}} {
		got, err := bag.Except(x[0], x[1])
		wantError(t, "Except("+show(x[0])+", "+show(x[1])+")", got, err, api.ErrShape)
	}
	for i, x := range brokenBags() {
		call := fmt.Sprintf("list %d: %s", i, show(x.l))
		for _, l := range [][]api.Entry{nil, table, other} {
			got, err := bag.Except(x.l, l)
			wantError(t, call+" first", got, err, x.err)
			got, err = bag.Except(l, x.l)
			wantError(t, call+" second", got, err, x.err)
		}
		for _, y := range brokenBags() {
			got, err := bag.Except(x.l, y.l)
			wantError(t, call+" before "+show(y.l), got, err, x.err)
		}
	}
}
