package bag_test

import (
	"fmt"
	"math"
	"math/rand"
	"slices"
	"testing"

	"warehouse/api"
	"warehouse/bag"
	"warehouse/schema"
)

// pairs returns a bag of rows of two values.
func pairs() []api.Entry {
	return []api.Entry{entry(1, 1, 7), entry(2, 1, 8), entry(-3, 2, 7)}
}

// wantProject reports an error unless Project of b is this bag.
func wantProject(t *testing.T, b []api.Entry, indices []int, projected []api.Entry) {
	t.Helper()
	got, err := bag.Project(b, indices)
	wantBag(t, fmt.Sprintf("Project(%s, %v)", show(b), indices), got, err, projected)
}

// wantNoProject reports an error unless Project of b returns this error.
func wantNoProject(t *testing.T, b []api.Entry, indices []int, want api.Errno) {
	t.Helper()
	got, err := bag.Project(b, indices)
	wantError(t, fmt.Sprintf("Project(%s, %v)", show(b), indices), got, err, want)
}

// outside returns numbers that are out of range for every row, among them those
// that are in range in 8 or 32 bits.
func outside() []int {
	return []int{-1, -2, math.MinInt, math.MinInt + 1, -1 << 32, math.MinInt32, -256, api.MaxColumns, 256, 1 << 16, math.MaxInt32, 1 << 32, math.MaxInt}
}

// P6.7
func TestProject(t *testing.T) {
	b := pairs()
	wantProject(t, b, []int{0}, []api.Entry{entry(3, 1), entry(-3, 2)})
	wantProject(t, b, []int{1}, []api.Entry{entry(-2, 7), entry(2, 8)})
	wantProject(t, b, []int{0, 1}, b)
	wantProject(t, b, []int{1, 0}, []api.Entry{entry(1, 7, 1), entry(-3, 7, 2), entry(2, 8, 1)})
	wantProject(t, b, []int{0, 0}, []api.Entry{entry(3, 1, 1), entry(-3, 2, 2)})
	wantProject(t, b, nil, nil)
	wantProject(t, b[:2], nil, []api.Entry{entry(3)})
	wantProject(t, b[:2], []int{}, []api.Entry{entry(3)})
	wantProject(t, b[:2], []int{5, 0, 0}, []api.Entry{{Row: []api.Value{null(), integer(1), integer(1)}, Count: 3}})
	wantProject(t, nil, []int{0, 1}, nil)
	wantProject(t, []api.Entry{}, nil, nil)
	wantProject(t, []api.Entry{entry(2)}, []int{0, 1}, []api.Entry{{Row: []api.Value{null(), null()}, Count: 2}})
}

// P6.7: a row without a value of a number has null there, like one with null.
func TestProjectRowsOfAnyLength(t *testing.T) {
	b := []api.Entry{entry(1), {Row: []api.Value{null()}, Count: 2}, {Row: []api.Value{null(), null()}, Count: 4}, entry(8, 1), {Row: []api.Value{integer(1), null()}, Count: 16}, entry(32, 1, 2), {Row: []api.Value{text("a")}, Count: -64}}
	wantProject(t, b, []int{0}, []api.Entry{{Row: []api.Value{null()}, Count: 7}, entry(56, 1), {Row: []api.Value{text("a")}, Count: -64}})
	wantProject(t, b, []int{1}, []api.Entry{{Row: []api.Value{null()}, Count: -33}, entry(32, 2)})
	for _, n := range outside() {
		wantProject(t, b, []int{n}, []api.Entry{{Row: []api.Value{null()}, Count: -1}})
		wantProject(t, b[:4], []int{n, 0}, []api.Entry{{Row: []api.Value{null(), null()}, Count: 7}, {Row: []api.Value{null(), integer(1)}, Count: 8}})
	}
}

// P6.7: at most MaxColumns numbers, after the errors of b.
func TestProjectErrors(t *testing.T) {
	most := []int{0, 1, -1, 99, 1, 0, 0, 1, 2, 3, 4, 5}
	wide := api.Entry{Row: schema.Pick(row(1, 7), most), Count: 1}
	wantProject(t, []api.Entry{entry(1, 1, 7)}, most, []api.Entry{wide})
	wantProject(t, nil, most, nil)
	for _, b := range [][]api.Entry{nil, {}, pairs(), {entry(api.MaxCount, 1), entry(1, 2)}} {
		wantNoProject(t, b, append(slices.Clone(most), 0), api.ErrLimit)
		wantNoProject(t, b, make([]int, 1000), api.ErrLimit)
	}
	for _, x := range brokenBags() {
		wantNoProject(t, x.l, nil, x.err)
		wantNoProject(t, x.l, []int{0}, x.err)
		wantNoProject(t, x.l, make([]int, api.MaxColumns+1), x.err)
	}
}

// P6.7: the sums are within the limits of a count; on the way they need not be.
func TestProjectLimits(t *testing.T) {
	const most = api.MaxCount
	wantNoProject(t, []api.Entry{entry(most, 1), entry(1, 2)}, nil, api.ErrLimit)
	wantNoProject(t, []api.Entry{entry(-most, 1), entry(-1, 2)}, nil, api.ErrLimit)
	wantNoProject(t, []api.Entry{entry(1, 0, 1), entry(most, 1, 1), entry(1, 1, 2)}, []int{0}, api.ErrLimit)
	wantProject(t, []api.Entry{entry(most-1, 1), entry(1, 2)}, nil, []api.Entry{entry(most)})
	wantProject(t, []api.Entry{entry(1-most, 1), entry(-1, 2)}, []int{}, []api.Entry{entry(-most)})
	wantProject(t, []api.Entry{entry(most, 1), entry(1, 2), entry(-1, 3)}, nil, []api.Entry{entry(most)})
	wantProject(t, []api.Entry{entry(-1, 1), entry(1, 2), entry(most, 3)}, nil, []api.Entry{entry(most)})
	wantNoProject(t, many(api.MaxEntries, 0, most), nil, api.ErrLimit)
	wantProject(t, append(many(api.MaxEntries/2, 0, most), many(api.MaxEntries/2, api.MaxEntries, -most)...), nil, nil)
	wantProject(t, many(api.MaxEntries, 0, most), []int{0}, many(api.MaxEntries, 0, most))
	wantProject(t, many(api.MaxEntries, 0, 2), nil, []api.Entry{entry(2 * api.MaxEntries)})
}

// P6.7: random bags and numbers, added up one by one.
func TestProjectRandomBags(t *testing.T) {
	random := rand.New(rand.NewSource(4))
	for range 3000 {
		b := totals(randomList(random, 40))
		indices := make([]int, random.Intn(4))
		for i := range indices {
			indices[i] = random.Intn(5) - 1
		}
		var l []api.Entry
		for _, e := range b {
			l = append(l, api.Entry{Row: schema.Pick(e.Row, indices), Count: e.Count})
		}
		wantProject(t, b, indices, totals(l))
	}
}

// wantSelect reports an error unless Select of b is this bag.
func wantSelect(t *testing.T, b []api.Entry, indices []int, key []api.Value, selected []api.Entry) {
	t.Helper()
	got, err := bag.Select(b, indices, key)
	wantBag(t, fmt.Sprintf("Select(%s, %v, %v)", show(b), indices, key), got, err, selected)
}

// P6.8
func TestSelect(t *testing.T) {
	b := pairs()
	wantSelect(t, b, []int{0}, row(1), b[:2])
	wantSelect(t, b, []int{0}, row(2), b[2:])
	wantSelect(t, b, []int{1}, row(7), []api.Entry{b[0], b[2]})
	wantSelect(t, b, []int{0, 1}, row(2, 7), b[2:])
	wantSelect(t, b, []int{1, 0}, row(8, 1), b[1:2])
	wantSelect(t, b, []int{0, 0}, row(1, 1), b[:2])
	wantSelect(t, b, nil, nil, b)
	wantSelect(t, b, []int{}, []api.Value{}, b)
	wantSelect(t, nil, []int{0}, row(1), nil)
	wantSelect(t, []api.Entry{}, nil, nil, nil)
	for _, b := range bags() {
		wantSelect(t, b, nil, nil, b)
	}
	full := many(api.MaxEntries, 0, -api.MaxCount)
	wantSelect(t, full, []int{0}, row(4000), full[4000:4001])
}

// P6.8: keys that no row has, some of them no rows of values.
func TestSelectNothing(t *testing.T) {
	b := pairs()
	wantSelect(t, b, []int{0}, row(3), nil)
	wantSelect(t, b, []int{0, 1}, row(2, 8), nil)
	wantSelect(t, b, []int{0, 0}, row(1, 2), nil)
	for _, v := range append(structs(), text(""), text("1"), api.Value{Kind: api.Time, Num: 1}, api.Value{Kind: api.Bool, Num: 1}, api.Value{Kind: api.Int, Num: 1, Str: "a"}) {
		wantSelect(t, b, []int{0}, []api.Value{v}, nil)
		wantSelect(t, b, []int{99}, []api.Value{v}, nil)
	}
	wantSelect(t, b, []int{0}, []api.Value{null()}, nil)
}

// P6.8: keys that are shorter or longer than the numbers.
func TestSelectKeysOfOtherLengths(t *testing.T) {
	b := append([]api.Entry{entry(4), {Row: []api.Value{null()}, Count: 5}, entry(6, 1)}, pairs()...)
	wantSelect(t, b, []int{0}, row(1, 7), nil)
	wantSelect(t, b, []int{0}, nil, nil)
	wantSelect(t, b, []int{0, 1}, row(1), nil)
	wantSelect(t, b, nil, row(1), nil)
	wantSelect(t, b, nil, []api.Value{null()}, nil)
	wantSelect(t, b, []int{99}, nil, nil)
	wantSelect(t, b, []int{99}, []api.Value{null(), null()}, nil)
	wantSelect(t, b, make([]int, 1<<16), row(1), nil)
	wantSelect(t, b, []int{0}, slices.Repeat(row(1), 1<<16), nil)
}

// P6.8: numbers that are out of range give null, and there may be more of them
// than a row has values.
func TestSelectOutOfRange(t *testing.T) {
	b := append([]api.Entry{entry(4), {Row: []api.Value{null()}, Count: 5}, entry(6, 1)}, pairs()...)
	for _, n := range outside() {
		wantSelect(t, b, []int{n}, []api.Value{null()}, b)
		wantSelect(t, b, []int{n}, row(1), nil)
		wantSelect(t, b, []int{n, 0}, []api.Value{null(), integer(1)}, b[2:5])
		wantSelect(t, b, []int{0, n}, []api.Value{integer(2), null()}, b[5:])
	}
	wantSelect(t, b, []int{0}, []api.Value{null()}, b[:2])
	wantSelect(t, b, []int{1}, []api.Value{null()}, b[:3])
	for _, n := range []int{api.MaxColumns, api.MaxColumns + 1, 300} {
		wantSelect(t, b, make([]int, n), slices.Repeat(row(1), n), b[2:5])
		wantSelect(t, b, make([]int, n), append(slices.Repeat(row(1), n-1), integer(2)), nil)
	}
}

// P6.8: random bags, entry by entry.
func TestSelectFromRandomBags(t *testing.T) {
	random := rand.New(rand.NewSource(5))
	for range 3000 {
		b := totals(randomList(random, 40))
		indices := []int{random.Intn(4), random.Intn(5) - 1}[:random.Intn(3)]
		for _, chosen := range b {
			key := schema.Pick(chosen.Row, indices)
			var want []api.Entry
			for _, e := range b {
				if slices.Equal(schema.Pick(e.Row, indices), key) {
					want = append(want, e)
				}
			}
			wantSelect(t, b, indices, key, want)
		}
	}
}

// P6.8: the error of Validate, whatever the numbers and the key are.
func TestSelectErrors(t *testing.T) {
	for _, x := range brokenBags() {
		for _, indices := range [][]int{nil, {0}, make([]int, 99)} {
			for _, key := range [][]api.Value{nil, row(1), {{Kind: 9}}} {
				got, err := bag.Select(x.l, indices, key)
				wantError(t, fmt.Sprintf("Select(%s, %v, %v)", show(x.l), indices, key), got, err, x.err)
			}
		}
	}
}
