package scalar_test

import (
	"reflect"
	"testing"

	"warehouse/api"
	"warehouse/scalar"
)

// guarded returns a copy of a list with spare capacity, and this capacity.
func guarded[T any](l []T, spare T) (short, whole []T) {
	whole = append(append([]T{}, l...), spare, spare)
	return whole[:len(l)], whole
}

// R2 for P9.1 to P9.4: arguments and their spare capacity stay, also when there
// is an error.
func TestArgumentsStay(t *testing.T) {
	for _, s := range []string{
		"if(nb and b, i, 7) + length(s ++ ns) * day(t, z) - coalesce(ni, 0)", "i", "null", "isnull(nt) or t - nt < 5", "day(t, core.y) % 0", "(1 + 'a') + x", "day(t, x)", "f(i)",
	} {
		e, allE := guarded(parsed(t, s), op(99))
		l, allL := guarded(columns(), required("X", 9))
		z, allZ := guarded(zones(), api.Zone{Name: "z", Offset: 9999})
		row, allRow := guarded(sparse(), api.Value{Kind: 9})
		wantE, wantL, wantZ, wantRow := clone(allE), clone(allL), clone(allZ), clone(allRow)
		for _, size := range []int{len(row), len(row) - 1, len(row) + 1} {
			kind, nullable, err := scalar.Type(e, l, z)
			v, got := scalar.Eval(e, l, allRow[:size], z)
			k, n, again := scalar.Type(e, l, z)
			w, last := scalar.Eval(e, l, allRow[:size], z)
			if k != kind || n != nullable || again != err || w != v || last != got {
				t.Errorf("%s: %d, %t, %d, %v, %d, and then %d, %t, %d, %v, %d", s, kind, nullable, err, v, got, k, n, again, w, last)
			}
		}
		if !reflect.DeepEqual(allE, wantE) || !reflect.DeepEqual(allL, wantL) || !reflect.DeepEqual(allZ, wantZ) || !reflect.DeepEqual(allRow, wantRow) {
			t.Errorf("%s: %v, %v, %v, %v", s, allE, allL, allZ, allRow)
		}
	}
	shared := zones()
	scalar.Eval(parsed(t, "day(t, core.y)"), columns(), filled(), shared)
	if !reflect.DeepEqual(shared, zones()) {
		t.Errorf("%v", shared)
	}
}

// clone returns a copy of a list.
func clone[T any](l []T) []T { return append([]T{}, l...) }

// R2 and R3: what a call was given does not count in a later one.
func TestCallsAreIndependent(t *testing.T) {
	e, l, row, z := parsed(t, "s ++ ns"), columns(), filled(), zones()
	v, _ := scalar.Eval(e, l, row, z)
	clear(row)
	clear(z)
	clear(l)
	clear(e)
	if v != text("ab") {
		t.Errorf("%v", v)
	}
	wantError(t, parsed(t, "s ++ ns"), []api.Column{required("s", api.Text)}, nil, api.ErrUnknown)
	wantError(t, parsed(t, "day(t, z)"), columns(), nil, api.ErrUnknown)
	wantValue(t, parsed(t, "s ++ ns"), sparse(), null)
	wantValue(t, parsed(t, "s ++ ns"), filled(), text("ab"))
}

// R3: columns with the same names in another order, and rows in theirs.
func TestColumnsInAnyOrder(t *testing.T) {
	e := parsed(t, "if(b, i, ni) + length(s) + day(t, z)")
	want, _ := scalar.Eval(e, columns(), filled(), zones())
	if want != number(10) {
		t.Errorf("%v", want)
	}
	for shift := range columns() {
		l := append(columns()[shift:], columns()[:shift]...)
		row := append(filled()[shift:], filled()[:shift]...)
		if v, err := scalar.Eval(e, l, row, zones()); v != want || err != api.OK {
			t.Errorf("%v: %v, %d", l, v, err)
		}
	}
}
