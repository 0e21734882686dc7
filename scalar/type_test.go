package scalar_test

import (
	"slices"
	"testing"

	"warehouse/api"
	"warehouse/expr"
	"warehouse/scalar"
)

// operand is an expression and its type.
type operand struct {
	text     string
	kind     int
	nullable bool
}

// operands returns several expressions of each type.
func operands() []operand {
	return []operand{
		{"null", api.Null, true}, {"if(b, null, null)", api.Null, true}, {"coalesce(null, null)", api.Null, true},
		{"true", api.Bool, false}, {"b", api.Bool, false}, {"isnull(null)", api.Bool, false},
		{"nb", api.Bool, true}, {"not null", api.Bool, true},
		{"7", api.Int, false}, {"i", api.Int, false}, {"t - t", api.Int, false},
		{"ni", api.Int, true}, {"1 / 1", api.Int, true}, {"null + null", api.Int, true},
		{"'a'", api.Text, false}, {"s", api.Text, false}, {"coalesce(ns, '')", api.Text, false},
		{"ns", api.Text, true}, {"null ++ null", api.Text, true},
		{"@1970-01-02T00:00", api.Time, false}, {"t", api.Time, false}, {"if(nb, t, t)", api.Time, false},
		{"nt", api.Time, true}, {"t + 1", api.Time, true},
	}
}

// line is a line of the chapter's table, with a kind for each operand; nullable
// tells from the operands that can be null whether the node can.
type line struct {
	op       int
	operands []int
	kind     int
	nullable func(l []bool) bool
}

// Ways in which a node can be null.
func never(l []bool) bool  { return false }
func always(l []bool) bool { return true }
func one(l []bool) bool    { return slices.Contains(l, true) }
func both(l []bool) bool   { return l[0] && l[1] }
func later(l []bool) bool  { return l[1] || l[2] }

// table returns the lines of the chapter's table for nodes with operands; those
// with any kind, and with two of one kind, are written once for each kind.
func table() []line {
	lines := []line{
		{api.OpNot, []int{api.Bool}, api.Bool, one},
		{api.OpNegate, []int{api.Int}, api.Int, one},
		{api.OpAdd, []int{api.Int, api.Int}, api.Int, always},
		{api.OpAdd, []int{api.Time, api.Int}, api.Time, always},
		{api.OpSubtract, []int{api.Int, api.Int}, api.Int, always},
		{api.OpSubtract, []int{api.Time, api.Int}, api.Time, always},
		{api.OpSubtract, []int{api.Time, api.Time}, api.Int, one},
		{api.OpMultiply, []int{api.Int, api.Int}, api.Int, always},
		{api.OpDivide, []int{api.Int, api.Int}, api.Int, always},
		{api.OpModulo, []int{api.Int, api.Int}, api.Int, always},
		{api.OpConcat, []int{api.Text, api.Text}, api.Text, always},
		{api.OpAnd, []int{api.Bool, api.Bool}, api.Bool, one},
		{api.OpOr, []int{api.Bool, api.Bool}, api.Bool, one},
		{api.OpLength, []int{api.Text}, api.Int, one},
		{api.OpDay, []int{api.Time}, api.Int, one},
	}
	for kind := api.Null; kind <= api.Time; kind++ {
		lines = append(lines,
			line{api.OpEqual, []int{kind, kind}, api.Bool, one},
			line{api.OpNotEqual, []int{kind, kind}, api.Bool, one},
			line{api.OpLess, []int{kind, kind}, api.Bool, one},
			line{api.OpLessEqual, []int{kind, kind}, api.Bool, one},
			line{api.OpIsNull, []int{kind}, api.Bool, never},
			line{api.OpIf, []int{api.Bool, kind, kind}, kind, later},
			line{api.OpCoalesce, []int{kind, kind}, kind, both},
		)
	}
	return lines
}

// counted returns the kinds as which the operands of a node count.
func counted(op int, kinds []int) []int {
	c := slices.Clone(kinds)
	for i, kind := range kinds {
		if kind == api.Null {
			c[i] = countedNull(op, i, kinds)
		}
	}
	return c
}

// countedNull returns the kind as which operand number i counts, which is Null.
func countedNull(op, i int, kinds []int) int {
	switch op {
	case api.OpNot, api.OpAnd, api.OpOr:
		return api.Bool
	case api.OpConcat, api.OpLength:
		return api.Text
	case api.OpDay:
		return api.Time
	case api.OpIsNull:
		return api.Null
	case api.OpEqual, api.OpNotEqual, api.OpLess, api.OpLessEqual, api.OpCoalesce:
		return kinds[1-i]
	case api.OpIf:
		return []int{api.Bool, kinds[2], kinds[1]}[i]
	case api.OpSubtract:
		if i == 0 && kinds[1] == api.Time {
			return api.Time
		}
	}
	return api.Int
}

// lookup returns the type of a node by the table, if it has one.
func lookup(lines []line, op int, kinds []int, nullable []bool) (kind int, null, ok bool) {
	c := counted(op, kinds)
	for _, l := range lines {
		if l.op == op && slices.Equal(l.operands, c) {
			return l.kind, l.nullable(nullable), true
		}
	}
	return 0, false, false
}

// wantLookup reports an error unless the node has the type of the table with
// these operands.
func wantLookup(t *testing.T, lines []line, n api.Node, l ...operand) {
	t.Helper()
	var e [][]api.Node
	var kinds []int
	var nullable []bool
	for _, x := range l {
		e, kinds, nullable = append(e, parsed(t, x.text)), append(kinds, x.kind), append(nullable, x.nullable)
	}
	if kind, null, ok := lookup(lines, n.Op, kinds, nullable); ok {
		wantType(t, apply(n, e...), kind, null)
	} else {
		wantError(t, apply(n, e...), columns(), zones(), api.ErrType)
	}
}

// operators returns a node of each operator that has operands.
func operators() []api.Node {
	l := []api.Node{day("z"), day("core.y")}
	for n := api.OpNot; n < api.OpDay; n++ {
		l = append(l, op(n))
	}
	return l
}

// P9.1: the expressions of this test have the types that they shall have.
func TestTypesOfOperands(t *testing.T) {
	for _, x := range operands() {
		wantType(t, parsed(t, x.text), x.kind, x.nullable)
	}
}

// P9.1 and P9.2: each operator with operands of all types at all places.
func TestTypesOfOperators(t *testing.T) {
	lines, all := table(), operands()
	for _, n := range operators() {
		for _, a := range all {
			switch expr.Arity(n) {
			case 1:
				wantLookup(t, lines, n, a)
			case 2:
				for _, b := range all {
					wantLookup(t, lines, n, a, b)
				}
			case 3:
				for _, b := range all {
					for _, c := range all {
						wantLookup(t, lines, n, a, b, c)
					}
				}
			}
		}
	}
}

// P9.1: constants have the kind of their value and can be null if they are.
func TestTypesOfConstants(t *testing.T) {
	for _, v := range []api.Value{
		null, boolean(0), boolean(1), number(0), number(-api.MaxInt), number(api.MaxInt), text(""), text("null"), moment(0), moment(api.MaxTime),
	} {
		wantType(t, constant(v), v.Kind, v == null)
	}
}

// P9.1: columns have the kind of the column with just their name, wherever it
// is, and can be null if it is nullable.
func TestTypesOfColumns(t *testing.T) {
	names := []string{"a", "aa", "aaa", "b", "a_", "a1", "z", "core", "i", "n", "day", "length"}
	for shift := range 8 {
		var l []api.Column
		for i, name := range names {
			l = append(l, api.Column{Name: name, Kind: api.Bool + (i+shift)%4, Nullable: (i+shift)/4%2 == 1})
		}
		for i, c := range l {
			for _, some := range [][]api.Column{l, l[:i+1], l[i:], {c}} {
				if kind, nullable, err := scalar.Type(column(c.Name), some, zones()); kind != c.Kind || nullable != c.Nullable || err != api.OK {
					t.Errorf("%v in %v: %d, %t, %d", c, some, kind, nullable, err)
				}
			}
			wantError(t, column(c.Name), append(l[:i:i], required("other", api.Int)), zones(), api.ErrUnknown)
		}
	}
}

// P9.1: the lines of the chapter's table, and the paragraph on the kind Null.
func TestTypes(t *testing.T) {
	for _, x := range []operand{
		{"not b", api.Bool, false}, {"not nb", api.Bool, true}, {"-i", api.Int, false}, {"-ni", api.Int, true}, {"-null", api.Int, true},
		{"i + i", api.Int, true}, {"1 + 1", api.Int, true}, {"t + i", api.Time, true}, {"i - i", api.Int, true}, {"t - i", api.Time, true},
		{"t - t", api.Int, false}, {"nt - t", api.Int, true}, {"t - nt", api.Int, true},
		{"null + null", api.Int, true}, {"null + i", api.Int, true}, {"i + null", api.Int, true}, {"t + null", api.Time, true},
		{"null - null", api.Int, true}, {"null - i", api.Int, true}, {"null - t", api.Int, true}, {"i - null", api.Int, true}, {"t - null", api.Time, true},
		{"i * i", api.Int, true}, {"i / 1", api.Int, true}, {"i % 1", api.Int, true}, {"s ++ s", api.Text, true},
		{"b = b", api.Bool, false}, {"i != ni", api.Bool, true}, {"ns < s", api.Bool, true}, {"t <= t", api.Bool, false}, {"null = null", api.Bool, true}, {"t > null", api.Bool, true},
		{"b and b", api.Bool, false}, {"nb and b", api.Bool, true}, {"b or nb", api.Bool, true}, {"null or b", api.Bool, true},
		{"isnull(i)", api.Bool, false}, {"isnull(ni)", api.Bool, false},
		{"if(b, i, i)", api.Int, false}, {"if(nb, s, s)", api.Text, false}, {"if(null, t, t)", api.Time, false}, {"if(b, ni, i)", api.Int, true}, {"if(b, i, ni)", api.Int, true},
		{"if(b, null, s)", api.Text, true}, {"if(b, s, null)", api.Text, true}, {"if(b, null, null)", api.Null, true}, {"if(null, null, null)", api.Null, true},
		{"coalesce(i, i)", api.Int, false}, {"coalesce(ni, i)", api.Int, false}, {"coalesce(i, ni)", api.Int, false}, {"coalesce(ni, ni)", api.Int, true},
		{"coalesce(null, i)", api.Int, false}, {"coalesce(i, null)", api.Int, false}, {"coalesce(null, ni)", api.Int, true}, {"coalesce(null, null)", api.Null, true},
		{"length(s)", api.Int, false}, {"length(ns)", api.Int, true}, {"length(null)", api.Int, true},
		{"day(t, z)", api.Int, false}, {"day(nt, z)", api.Int, true}, {"day(null, core.y)", api.Int, true},
		{"if(b, null, null) - t", api.Int, true}, {"t - coalesce(null, null)", api.Time, true}, {"not if(nb, null, null)", api.Bool, true},
		{"coalesce(coalesce(ni, i + 1), length(s))", api.Int, false}, {"isnull(1 / 0) and t < @1970-01-02T00:00", api.Bool, false},
	} {
		wantType(t, parsed(t, x.text), x.kind, x.nullable)
	}
}
