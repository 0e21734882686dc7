package schema_test

import (
	"math"
	"slices"
	"strings"
	"testing"

	"warehouse/api"
	"warehouse/schema"
)

// required returns a column that is not nullable.
func required(name string, kind int) api.Column { return api.Column{Name: name, Kind: kind} }

// optional returns a column that is nullable.
func optional(name string, kind int) api.Column {
	return api.Column{Name: name, Kind: kind, Nullable: true}
}

// full returns n columns with different names.
func full(n int) []api.Column {
	var l []api.Column
	for i := range n {
		l = append(l, required("n"+strings.Repeat("_", i%20)+string(rune('a'+i/20)), api.Bool+i%4))
	}
	return l
}

// kinds returns integers that are not kinds of columns, among them those that
// are in 8 or 32 bits.
func kinds() []int {
	return []int{math.MinInt, math.MinInt + 1, -1 << 32, math.MinInt32, -256, -255, -4, -2, -1, api.Null, 5, 6, 255, 256, 257, 260, 1 << 16, math.MaxInt32, 1 << 32, 1<<32 + 1, math.MaxInt - 1, math.MaxInt}
}

// wantErrno reports an error unless Validate of the columns is err.
func wantErrno(t *testing.T, l []api.Column, err api.Errno) {
	t.Helper()
	if got := schema.Validate(l); got != err {
		t.Errorf("Validate(%v) = %d, not %d", l, got, err)
	}
}

// P5.2: any names and kinds, nullable or not.
func TestValidateAccepts(t *testing.T) {
	for kind := api.Bool; kind <= api.Time; kind++ {
		for _, name := range []string{"a", "z", "a_1", "n9", longest} {
			wantErrno(t, []api.Column{required(name, kind)}, api.OK)
			wantErrno(t, []api.Column{optional(name, kind)}, api.OK)
			wantErrno(t, []api.Column{optional(name, kind), required("b", api.Int), optional("c", kind)}, api.OK)
		}
	}
	wantErrno(t, []api.Column{required("a", api.Int), required("aa", api.Int), required("a_", api.Int), required("a1", api.Int)}, api.OK)
	wantErrno(t, []api.Column{required(longest, api.Int), required(longest[1:], api.Int), required(longest[1:]+"m", api.Int)}, api.OK)
}

// P5.2: the number of columns comes first, whatever is wrong with them.
func TestValidateLimitsColumns(t *testing.T) {
	wantErrno(t, nil, api.ErrLimit)
	wantErrno(t, []api.Column{}, api.ErrLimit)
	for n := 1; n <= api.MaxColumns; n++ {
		wantErrno(t, full(n), api.OK)
	}
	for _, n := range []int{api.MaxColumns + 1, api.MaxColumns + 2, 24, 256, 257, 300} {
		wantErrno(t, full(n), api.ErrLimit)
		for _, c := range []api.Column{{}, required("", 9), required("A", api.Int), required("a", api.Null), required("a", api.Int)} {
			wantErrno(t, slices.Repeat([]api.Column{c}, n), api.ErrLimit)
			wantErrno(t, append(full(n-1), c), api.ErrLimit)
		}
	}
}

// P5.2: a name of a column is a name without a module, at every place.
func TestValidateChecksNames(t *testing.T) {
	for _, s := range append(others(), ".", "a.b", "core.a", ".a", "a.") {
		for n := range api.MaxColumns {
			for _, kind := range []int{api.Text, api.Null, 9} {
				l := append(full(n), required(s, kind))
				wantErrno(t, l, api.ErrName)
				wantErrno(t, append(l, full(api.MaxColumns)[n+1:]...), api.ErrName)
			}
		}
	}
}

// P5.2: kinds below Bool and above Time, at every place.
func TestValidateChecksKinds(t *testing.T) {
	for _, kind := range kinds() {
		for n := range api.MaxColumns {
			for _, nullable := range []bool{false, true} {
				l := full(api.MaxColumns)
				l[n].Kind, l[n].Nullable = kind, nullable
				wantErrno(t, l, api.ErrType)
				wantErrno(t, l[:n+1], api.ErrType)
			}
		}
	}
}

// P5.2: equal names at any two places, whatever else the columns have.
func TestValidateFindsDuplicates(t *testing.T) {
	for size := 2; size <= api.MaxColumns; size++ {
		for i := range size {
			for k := range i {
				l := full(size)
				l[i].Name = l[k].Name
				wantErrno(t, l, api.ErrDuplicate)
				l[i] = l[k]
				wantErrno(t, l, api.ErrDuplicate)
				l[i].Nullable = true
				wantErrno(t, l, api.ErrDuplicate)
			}
		}
	}
	wantErrno(t, []api.Column{required(longest, api.Int), optional(longest, api.Int)}, api.ErrDuplicate)
}

// P5.2: the errors of a column come before those of the next one, and its name
// before its kind before its duplicates (R6).
func TestValidateOrdersErrors(t *testing.T) {
	good, name, kind := required("a", api.Int), required("A", api.Int), required("b", 5)
	for _, x := range []struct {
		l   []api.Column
		err api.Errno
	}{
		{[]api.Column{required("", 9)}, api.ErrName},
		{[]api.Column{{}}, api.ErrName},
		{[]api.Column{{}, {}}, api.ErrName},
		{[]api.Column{name, name}, api.ErrName},
		{[]api.Column{kind, kind}, api.ErrType},
		{[]api.Column{good, required("a", api.Null)}, api.ErrType},
		{[]api.Column{good, good, name}, api.ErrDuplicate},
		{[]api.Column{good, good, kind}, api.ErrDuplicate},
		{[]api.Column{good, name, good}, api.ErrName},
		{[]api.Column{good, kind, good}, api.ErrType},
		{[]api.Column{good, name, kind}, api.ErrName},
		{[]api.Column{good, kind, name}, api.ErrType},
		{[]api.Column{name, kind}, api.ErrName},
		{[]api.Column{kind, name}, api.ErrType},
	} {
		wantErrno(t, x.l, x.err)
	}
}

// wantIndex reports an error unless Index of the name is n.
func wantIndex(t *testing.T, l []api.Column, name string, n int) {
	t.Helper()
	if got := schema.Index(l, name); got != n {
		t.Errorf("Index(%v, %q) = %d, not %d", l, name, got, n)
	}
}

// P5.3: the first one of equal columns; columns and names need not be valid.
func TestIndex(t *testing.T) {
	l := []api.Column{required("a", api.Int), optional("b", api.Text), optional("a", api.Bool), required("B", 9), required("", -1), {}, required("a.b", 0), required("b", api.Int)}
	for name, n := range map[string]int{"a": 0, "b": 1, "B": 3, "": 4, "a.b": 6, "A": -1, "c": -1, "aa": -1, "a ": -1, "ab": -1, "a.": -1, "\x00": -1} {
		wantIndex(t, l, name, n)
	}
	for _, name := range []string{"", "a", "a.b"} {
		wantIndex(t, nil, name, -1)
		wantIndex(t, []api.Column{}, name, -1)
		wantIndex(t, []api.Column{required("b", api.Int)}, name, -1)
	}
	for _, size := range []int{1, 2, api.MaxColumns, api.MaxColumns + 1, 300} {
		columns := full(size)
		for i, c := range columns {
			wantIndex(t, columns, c.Name, i)
			wantIndex(t, columns[:i], c.Name, -1)
			wantIndex(t, append(columns, columns...), c.Name, i)
		}
	}
}

// wantIndices reports an error unless Indices of the names is indices and err.
func wantIndices(t *testing.T, l []api.Column, names []string, indices []int, err api.Errno) {
	t.Helper()
	if got, e := schema.Indices(l, names); !slices.Equal(got, indices) || e != err {
		t.Errorf("Indices(%v, %q) = %v, %d, not %v, %d", l, names, got, e, indices, err)
	}
}

// P5.5: any names in any order; columns need not be valid.
func TestIndices(t *testing.T) {
	l := []api.Column{required("a", api.Int), optional("b", api.Text), optional("a", api.Bool), required("B", 9), {}}
	for _, names := range [][]string{nil, {}} {
		wantIndices(t, l, names, nil, api.OK)
		wantIndices(t, nil, names, nil, api.OK)
	}
	wantIndices(t, l, []string{"a"}, []int{0}, api.OK)
	wantIndices(t, l, []string{"b", "a"}, []int{1, 0}, api.OK)
	wantIndices(t, l, []string{"a", "b"}, []int{0, 1}, api.OK)
	wantIndices(t, l, []string{"", "B", "b", "a"}, []int{4, 3, 1, 0}, api.OK)
	for _, size := range []int{1, 2, api.MaxColumns, api.MaxColumns + 1, 300} {
		columns := full(size)
		var names []string
		var indices []int
		for i := range size {
			names = append(names, columns[size-1-i].Name)
			indices = append(indices, size-1-i)
			wantIndices(t, columns, names, indices, api.OK)
		}
		wantIndices(t, columns, append(names, names[0]), nil, api.ErrDuplicate)
		wantIndices(t, columns, append(names, "n"), nil, api.ErrUnknown)
	}
}

// P5.5: the errors of a name come before those of the next one, and a name that
// no column has is unknown wherever it occurs (R6).
func TestIndicesOrdersErrors(t *testing.T) {
	l := []api.Column{required("a", api.Int), optional("b", api.Text), optional("a", api.Bool)}
	for _, x := range []struct {
		names []string
		err   api.Errno
	}{
		{[]string{"c"}, api.ErrUnknown},
		{[]string{""}, api.ErrUnknown},
		{[]string{"A"}, api.ErrUnknown},
		{[]string{"a.b"}, api.ErrUnknown},
		{[]string{"a", "c"}, api.ErrUnknown},
		{[]string{"c", "a"}, api.ErrUnknown},
		{[]string{"c", "c"}, api.ErrUnknown},
		{[]string{"c", "a", "a"}, api.ErrUnknown},
		{[]string{"a", "c", "a"}, api.ErrUnknown},
		{[]string{"a", "a"}, api.ErrDuplicate},
		{[]string{"b", "b"}, api.ErrDuplicate},
		{[]string{"a", "b", "a"}, api.ErrDuplicate},
		{[]string{"a", "b", "b"}, api.ErrDuplicate},
		{[]string{"a", "a", "c"}, api.ErrDuplicate},
		{[]string{"a", "b", "b", "c", "a"}, api.ErrDuplicate},
	} {
		wantIndices(t, l, x.names, nil, x.err)
		wantIndices(t, nil, x.names, nil, api.ErrUnknown)
	}
}

// wantSame reports an error unless Same of the lists is is, in both orders.
func wantSame(t *testing.T, a, b []api.Column, is bool) {
	t.Helper()
	if schema.Same(a, b) != is || schema.Same(b, a) != is {
		t.Errorf("Same(%v, %v) is %t, and %t in the other order", a, b, schema.Same(a, b), schema.Same(b, a))
	}
}

// P5.7: only lengths, names and kinds count, of columns that need not be valid.
func TestSame(t *testing.T) {
	wantSame(t, nil, nil, true)
	wantSame(t, nil, []api.Column{}, true)
	wantSame(t, nil, []api.Column{{}}, false)
	wantSame(t, []api.Column{{}}, []api.Column{{}}, true)
	wantSame(t, []api.Column{{}}, []api.Column{{}, {}}, false)
	wantSame(t, []api.Column{required("A.", 9)}, []api.Column{optional("A.", 9)}, true)
	wantSame(t, []api.Column{required("a", math.MinInt)}, []api.Column{required("a", math.MaxInt)}, false)
	wantSame(t, []api.Column{required("a", api.Int), required("b", api.Text)}, []api.Column{required("b", api.Text), required("a", api.Int)}, false)
	for n := range api.MaxColumns + 2 {
		for m := range api.MaxColumns + 2 {
			wantSame(t, full(n), full(m), n == m)
		}
	}
	for i := range api.MaxColumns {
		a, b := full(api.MaxColumns), full(api.MaxColumns)
		b[i].Nullable = true
		wantSame(t, a, b, true)
		a[i].Kind++
		wantSame(t, a, b, false)
		b[i].Kind++
		wantSame(t, a, b, true)
		a[i].Name += "a"
		wantSame(t, a, b, false)
		wantSame(t, a[:i], b[:i], true)
		wantSame(t, a[i+1:], b[i+1:], true)
	}
}

// wantWiden reports an error unless Widen of the lists is l.
func wantWiden(t *testing.T, a, b, l []api.Column) {
	t.Helper()
	if got := schema.Widen(a, b); !slices.Equal(got, l) {
		t.Errorf("Widen(%v, %v) = %v, not %v", a, b, got, l)
	}
}

// P5.7: nullable in one list, in both and in none.
func TestWiden(t *testing.T) {
	a := []api.Column{required("a", 1), required("b", 2), optional("c", 3), optional("d", 4)}
	b := []api.Column{required("a", 1), optional("b", 2), required("c", 3), optional("d", 4)}
	wide := []api.Column{required("a", 1), optional("b", 2), optional("c", 3), optional("d", 4)}
	wantWiden(t, a, b, wide)
	wantWiden(t, b, a, wide)
	wantWiden(t, a, a, a)
	wantWiden(t, wide, b, wide)
}

// P5.7: of b only the place and the nullability count, however long it is.
func TestWidenOfOtherLists(t *testing.T) {
	for n := range api.MaxColumns + 2 {
		a := full(n)
		wantWiden(t, a, nil, a)
		wantWiden(t, a, []api.Column{}, a)
		wantWiden(t, nil, a, nil)
		wantWiden(t, []api.Column{}, a, nil)
		for m := range api.MaxColumns + 3 {
			wantWiden(t, a, slices.Repeat([]api.Column{required("x", 9)}, m), a)
			b, want := slices.Repeat([]api.Column{optional("X.", -1)}, m), full(n)
			for i := range min(n, m) {
				want[i].Nullable = true
			}
			wantWiden(t, a, b, want)
			wantWiden(t, want, a, want)
		}
	}
	wantWiden(t, []api.Column{{}, required("A.", -9)}, []api.Column{required("a", 1), optional("b", 2)}, []api.Column{{}, optional("A.", -9)})
	wantWiden(t, []api.Column{required("a", 1)}, []api.Column{required("b", 1), optional("a", 1)}, []api.Column{required("a", 1)})
}
