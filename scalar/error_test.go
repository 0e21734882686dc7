package scalar_test

import (
	"fmt"
	"math"
	"slices"
	"strings"
	"testing"

	"warehouse/api"
	"warehouse/scalar"
)

// fault is a call with an error.
type fault struct {
	e   []api.Node
	l   []api.Column
	z   []api.Zone
	err api.Errno
}

// shifts returns n shifts that are in order.
func shifts(n int) []api.Shift {
	var l []api.Shift
	for i := range n {
		l = append(l, api.Shift{At: i + 1})
	}
	return l
}

// faultyExpressions returns expressions with an error of Validate.
func faultyExpressions() []fault {
	b, i := column("b"), column("i")
	return []fault{
		{e: nil, err: api.ErrShape},
		{e: []api.Node{}, err: api.ErrShape},
		{e: slices.Repeat(b, api.MaxNodes+1), err: api.ErrLimit},
		{e: slices.Concat(b, slices.Repeat([]api.Node{op(api.OpNot)}, api.MaxDepth)), err: api.ErrLimit},
		{e: []api.Node{op(-1)}, err: api.ErrShape},
		{e: []api.Node{op(api.OpCall + 1)}, err: api.ErrShape},
		{e: apply(op(math.MaxInt), i, i), err: api.ErrShape},
		{e: apply(op(math.MinInt), i, i), err: api.ErrShape},
		{e: slices.Concat(i, i), err: api.ErrShape},
		{e: slices.Concat(i, constant(text("a")), []api.Node{op(api.OpAdd)}, column("x")), err: api.ErrShape},
		{e: []api.Node{op(api.OpNot)}, err: api.ErrShape},
		{e: apply(op(api.OpAdd), i), err: api.ErrShape},
		{e: apply(op(api.OpIf), b, i), err: api.ErrShape},
		{e: apply(call("f", 2), i), err: api.ErrShape},
		{e: apply(call("f", -1), i), err: api.ErrShape},
		{e: apply(call("if", 0)), err: api.ErrShape},
		{e: column(""), err: api.ErrShape},
		{e: column("core.i"), err: api.ErrShape},
		{e: column("null"), err: api.ErrShape},
		{e: constant(api.Value{Kind: 9}), err: api.ErrShape},
		{e: constant(number(api.MaxInt + 1)), err: api.ErrShape},
		{e: constant(moment(-1)), err: api.ErrShape},
		{e: apply(day("Z"), column("t")), err: api.ErrShape},
		{e: apply(day(""), column("t")), err: api.ErrShape},
		{e: []api.Node{{Op: api.OpColumn, Name: "i", Arity: 1}}, err: api.ErrShape},
		{e: []api.Node{{Op: api.OpConst, Name: "i"}}, err: api.ErrShape},
		{e: []api.Node{{Op: api.OpColumn, Name: "i", Value: number(1)}}, err: api.ErrShape},
		{e: apply(api.Node{Op: api.OpNot, Name: "b"}, b), err: api.ErrShape},
	}
}

// faultyColumns returns columns with an error of Validate.
func faultyColumns() []fault {
	var many []api.Column
	for i := range api.MaxColumns + 1 {
		many = append(many, required("c"+string(rune('a'+i)), api.Int))
	}
	l := columns()
	return []fault{
		{l: nil, err: api.ErrLimit},
		{l: []api.Column{}, err: api.ErrLimit},
		{l: many, err: api.ErrLimit},
		{l: append(l[:8:8], required("", api.Int)), err: api.ErrName},
		{l: append(l[:8:8], required("I", 9)), err: api.ErrName},
		{l: append(l[:8:8], required("core.i", api.Int)), err: api.ErrName},
		{l: append(l[:8:8], required("x", api.Null)), err: api.ErrType},
		{l: append(l[:8:8], required("i", 5)), err: api.ErrType},
		{l: append([]api.Column{required("x", -1)}, l...), err: api.ErrType},
		{l: append(l[:8:8], required("i", api.Int)), err: api.ErrDuplicate},
		{l: append(l[:8:8], optional("b", api.Text), required("", 9)), err: api.ErrDuplicate},
		{l: append([]api.Column{required("i", api.Int)}, l...), err: api.ErrDuplicate},
	}
}

// faultyZones returns zones with an error of Validate.
func faultyZones() []fault {
	order, late, far := []api.Shift{{At: 5}, {At: 5}}, []api.Shift{{At: api.MaxTime + 1}}, []api.Shift{{At: 1, Offset: api.MaxOffset + 1}}
	l := zones()
	return []fault{
		{z: append(l[:3:3], api.Zone{Name: "x", Shifts: shifts(api.MaxShifts + 1)}), err: api.ErrLimit},
		{z: append(l[:3:3], api.Zone{Name: "x", Offset: api.MaxOffset + 1}), err: api.ErrRange},
		{z: append(l[:3:3], api.Zone{Name: "x", Offset: -api.MaxOffset - 1}), err: api.ErrRange},
		{z: append(l[:3:3], api.Zone{Name: "z", Offset: math.MaxInt}), err: api.ErrRange},
		{z: append(l[:3:3], api.Zone{Offset: math.MinInt}), err: api.ErrRange},
		{z: append([]api.Zone{{Name: "x", Shifts: late}}, l...), err: api.ErrRange},
		{z: append([]api.Zone{{Name: "x", Shifts: far}}, l...), err: api.ErrRange},
		{z: append(l[:3:3], api.Zone{Name: "x", Shifts: []api.Shift{{}}}), err: api.ErrRange},
		{z: append(l[:3:3], api.Zone{Name: "x", Shifts: order}), err: api.ErrOrder},
		{z: append([]api.Zone{{Name: "x", Shifts: order}}, l...), err: api.ErrOrder},
		// The errors of a zone come before those of the next one.
		{z: []api.Zone{{Shifts: order}, {Offset: 9999}}, err: api.ErrOrder},
		{z: []api.Zone{{Offset: 9999}, {Shifts: order}}, err: api.ErrRange},
		{z: []api.Zone{{}, {Shifts: shifts(api.MaxShifts + 1)}, {Shifts: order}}, err: api.ErrLimit},
		{z: []api.Zone{{Offset: 9999, Shifts: shifts(api.MaxShifts + 1)}, {Shifts: order}}, err: api.ErrLimit},
	}
}

// faultyNodes returns expressions over columns and zones with an error of a
// node.
func faultyNodes(t *testing.T) []fault {
	t.Helper()
	var l []fault
	for s, err := range map[string]api.Errno{
		// Names that denote nothing, or something of another kind.
		"x": api.ErrUnknown, "z": api.ErrUnknown, "ii": api.ErrUnknown, "n": api.ErrUnknown, "core": api.ErrUnknown, "day": api.ErrUnknown,
		"day(t, x)": api.ErrUnknown, "day(t, y)": api.ErrUnknown, "day(t, core)": api.ErrUnknown, "day(t, core.z)": api.ErrUnknown, "day(t, z.z)": api.ErrUnknown, "day(t, t)": api.ErrUnknown, "day(null, x)": api.ErrUnknown,
		"f()": api.ErrUnknown, "f(1)": api.ErrUnknown, "i(1)": api.ErrUnknown, "core.y(1)": api.ErrUnknown, "z()": api.ErrUnknown, "f(1, 2, 3, 4, 5, 6, 7, 8)": api.ErrUnknown, "isnull(x)": api.ErrUnknown, "isnull(f())": api.ErrUnknown,
		// Operands that do not fit.
		"not 1": api.ErrType, "not 'a'": api.ErrType, "not t": api.ErrType, "-b": api.ErrType, "-s": api.ErrType, "-t": api.ErrType,
		"1 + 'a'": api.ErrType, "'a' + 'b'": api.ErrType, "i + t": api.ErrType, "null + t": api.ErrType, "t + t": api.ErrType, "s + null": api.ErrType, "b + null": api.ErrType, "null + b": api.ErrType, "null + s": api.ErrType,
		"i - t": api.ErrType, "s - null": api.ErrType, "b - null": api.ErrType, "null - s": api.ErrType, "null - b": api.ErrType, "t - s": api.ErrType, "s - s": api.ErrType,
		"t * 2": api.ErrType, "2 * t": api.ErrType, "t / 2": api.ErrType, "t % 60": api.ErrType, "null * b": api.ErrType, "b / null": api.ErrType, "s % s": api.ErrType,
		"s ++ 1": api.ErrType, "1 ++ s": api.ErrType, "null ++ 1": api.ErrType, "t ++ null": api.ErrType,
		"i = s": api.ErrType, "i = t": api.ErrType, "b != 1": api.ErrType, "t < 1": api.ErrType, "'1' <= 1": api.ErrType, "(b = b) = i": api.ErrType,
		"b and 1": api.ErrType, "1 and b": api.ErrType, "s or null": api.ErrType, "null or t": api.ErrType, "false and 1": api.ErrType, "true or 's'": api.ErrType,
		"if(1, 2, 3)": api.ErrType, "if(s, 2, 3)": api.ErrType, "if(b, 2, s)": api.ErrType, "if(b, t, 1)": api.ErrType, "if(1, null, null)": api.ErrType, "if(true, 1, 's')": api.ErrType, "if(null, 1, b)": api.ErrType,
		"coalesce(i, s)": api.ErrType, "coalesce(t, 0)": api.ErrType, "coalesce(1, b)": api.ErrType,
		"length(1)": api.ErrType, "length(t)": api.ErrType, "day(1, z)": api.ErrType, "day(s, core.y)": api.ErrType, "day(b, z)": api.ErrType,
		// The operands come before the node, and the first one before the second.
		"x + (1 + 'a')": api.ErrUnknown, "(1 + 'a') + x": api.ErrType, "s * x": api.ErrUnknown, "day(i, x)": api.ErrUnknown, "day(not 1, x)": api.ErrType, "day(x, z)": api.ErrUnknown,
		"f(1 + 'a')": api.ErrType, "f(1, x, not 1)": api.ErrUnknown, "f(not 1, x)": api.ErrType, "(not 1) = f()": api.ErrType, "f() = (not 1)": api.ErrUnknown,
		"if(not 1, x, f())": api.ErrType, "if(1, 2, x)": api.ErrUnknown, "if(1, -b, x)": api.ErrType, "coalesce(isnull(-b), x)": api.ErrType, "true or x": api.ErrUnknown, "1 > x": api.ErrUnknown, "(1 + 'a') > x": api.ErrUnknown,
	} {
		l = append(l, fault{parsed(t, s), columns(), zones(), err})
	}
	return l
}

// P9.2 and P9.4: the error of Validate of an expression.
func TestFaultyExpressions(t *testing.T) {
	for _, x := range faultyExpressions() {
		wantError(t, x.e, columns(), zones(), x.err)
	}
}

// P9.2 and P9.4: the error of Validate of columns, used or not.
func TestFaultyColumns(t *testing.T) {
	for _, x := range faultyColumns() {
		wantError(t, column("i"), x.l, zones(), x.err)
		wantError(t, constant(number(1)), x.l, zones(), x.err)
	}
}

// P9.2 and P9.4: the error of Validate of any zone, used or not, also of one
// that has the name of an earlier one.
func TestFaultyZones(t *testing.T) {
	for _, x := range faultyZones() {
		wantError(t, parsed(t, "day(t, z)"), columns(), x.z, x.err)
		wantError(t, constant(number(1)), columns(), x.z, x.err)
	}
	many := slices.Repeat([]api.Zone{{Name: "z", Shifts: shifts(api.MaxShifts)}}, 100)
	wantZones(t, "day(t, z)", many, number(1))
	for i := range many {
		faulty := slices.Clone(many)
		faulty[i].Offset = 9999
		wantError(t, parsed(t, "day(t, z)"), columns(), faulty, api.ErrRange)
	}
}

// wantZones reports an error unless an expression over columns and other zones
// has this value.
func wantZones(t *testing.T, s string, z []api.Zone, v api.Value) {
	t.Helper()
	if got, err := scalar.Eval(parsed(t, s), columns(), filled(), z); got != v || err != api.OK {
		t.Errorf("Eval(%s, %v) = %v, %d, not %v", s, z, got, err, v)
	}
}

// P9.2 and P9.4: the errors of nodes, and which one comes first (R6).
func TestFaultyNodes(t *testing.T) {
	for _, x := range faultyNodes(t) {
		wantError(t, x.e, x.l, x.z, x.err)
	}
}

// P9.2: no zones, and zones whose names are no names; names in expressions are
// compared with all of their bytes.
func TestNamesOfZones(t *testing.T) {
	wantZones(t, "1", nil, number(1))
	wantZones(t, "1", []api.Zone{{}, {Name: "A b"}, {Name: "null"}, {Name: strings.Repeat("x", 1000)}, {}}, number(1))
	wantZones(t, "day(t, x)", []api.Zone{{}, {Name: "X", Offset: -60}, {Name: "x"}}, number(1))
	for _, z := range [][]api.Zone{nil, {}, {{}}, {{Name: "X"}}, {{Name: "x "}}, {{Name: "xx"}, {Name: "core.x"}, {Name: "x.x"}}} {
		wantError(t, parsed(t, "day(t, x)"), columns(), z, api.ErrUnknown)
	}
	wantError(t, parsed(t, "day(t, core.x)"), columns(), []api.Zone{{Name: "x"}, {Name: "core"}, {Name: "x.core"}}, api.ErrUnknown)
}

// P9.2: expressions before columns before zones before nodes, whatever is wrong
// with those behind (R6).
func TestErrorsInOrder(t *testing.T) {
	expressions, lists, places, nodes := faultyExpressions(), faultyColumns(), faultyZones(), faultyNodes(t)
	for _, n := range nodes {
		for _, z := range places {
			wantError(t, n.e, columns(), z.z, z.err)
			for _, l := range lists {
				wantError(t, n.e, l.l, z.z, l.err)
			}
		}
	}
	for _, e := range expressions {
		for _, l := range lists {
			wantError(t, e.e, l.l, zones(), e.err)
			for _, z := range places {
				wantError(t, e.e, columns(), z.z, e.err)
				wantError(t, e.e, l.l, z.z, e.err)
			}
		}
	}
}

// wantRow reports an error unless Eval of the expressions over columns returns
// err for this row, whether they use it or not.
func wantRow(t *testing.T, row []api.Value, err api.Errno) {
	t.Helper()
	for _, s := range []string{"1", "i", "null", "isnull(nb)", "day(t, z)"} {
		if v, got := scalar.Eval(parsed(t, s), columns(), row, zones()); got != err || got != api.OK && v != null {
			t.Errorf("Eval(%s) of %v = %v, %d, not error %d", s, row, v, got, err)
		}
	}
}

// P9.4: rows that fit the columns, and rows of other lengths.
func TestLengthsOfRows(t *testing.T) {
	for _, row := range [][]api.Value{filled(), sparse()} {
		wantRow(t, row, api.OK)
		for n := range len(row) {
			wantRow(t, row[:n], api.ErrShape)
			wantRow(t, row[n+1:], api.ErrShape)
			wantRow(t, append(row[:8:8], row[:n+1]...), api.ErrShape)
		}
	}
	wantRow(t, nil, api.ErrShape)
	wantRow(t, []api.Value{}, api.ErrShape)
}

// P9.4: at each place of a row, each value that does not fit there.
func TestValuesOfRows(t *testing.T) {
	values := []api.Value{null, boolean(0), number(0), text(""), moment(0)}
	invalid := []api.Value{
		{Num: 1}, {Str: "a"}, boolean(2), boolean(-1), number(api.MaxInt + 1), number(-api.MaxInt - 1), number(math.MinInt),
		text(strings.Repeat("x", api.MaxText+1)), moment(-1), moment(api.MaxTime + 1), {Kind: 5}, {Kind: -1}, {Kind: api.Int, Str: "a"}, {Kind: api.Text, Num: 1},
	}
	for i, c := range columns() {
		for _, v := range values {
			row, err := filled(), api.OK
			row[i] = v
			if v == null && !c.Nullable || v != null && v.Kind != c.Kind {
				err = api.ErrType
			}
			wantRow(t, row, err)
			for k := range i {
				first := slices.Clone(row)
				first[k] = api.Value{Kind: 9}
				wantRow(t, first, api.ErrShape)
				if k%2 == 0 {
					first[k], first[i] = null, api.Value{Kind: 9}
					wantRow(t, first, api.ErrType)
				}
			}
		}
		for _, v := range invalid {
			row := filled()
			row[i] = v
			wantRow(t, row, api.ErrShape)
		}
	}
}

// P9.4: the error of Type comes before that of the row, for each error of Type.
func TestRowsComeLast(t *testing.T) {
	faults := faultyNodes(t)
	for _, x := range faultyExpressions() {
		faults = append(faults, fault{x.e, columns(), zones(), x.err})
	}
	for _, x := range faultyColumns() {
		faults = append(faults, fault{column("i"), x.l, zones(), x.err})
	}
	for _, x := range faultyZones() {
		faults = append(faults, fault{column("i"), columns(), x.z, x.err})
	}
	for _, x := range faults {
		for _, row := range [][]api.Value{filled(), nil, filled()[1:], append(filled(), null), make([]api.Value, 8), {{Kind: -1}}, slices.Repeat([]api.Value{{Kind: 9}}, 8)} {
			if v, err := scalar.Eval(x.e, x.l, row, x.z); v != null || err != x.err {
				t.Error(fmt.Sprint(x.e, x.l, row, x.z), v, err, x.err)
			}
		}
	}
}
