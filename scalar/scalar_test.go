package scalar_test

import (
	"slices"
	"testing"

	"warehouse/api"
	"warehouse/expr"
	"warehouse/scalar"
)

// null is the value null.
var null = api.Value{}

// boolean returns a boolean, which is true if n is 1.
func boolean(n int) api.Value { return api.Value{Kind: api.Bool, Num: n} }

// number returns an integer.
func number(n int) api.Value { return api.Value{Kind: api.Int, Num: n} }

// text returns a text.
func text(s string) api.Value { return api.Value{Kind: api.Text, Str: s} }

// moment returns a time.
func moment(n int) api.Value { return api.Value{Kind: api.Time, Num: n} }

// truth returns a boolean.
func truth(b bool) api.Value {
	if b {
		return boolean(1)
	}
	return boolean(0)
}

// required returns a column that is not nullable.
func required(name string, kind int) api.Column { return api.Column{Name: name, Kind: kind} }

// optional returns a column that is nullable.
func optional(name string, kind int) api.Column {
	return api.Column{Name: name, Kind: kind, Nullable: true}
}

// columns returns a column of each kind that is not nullable, and one that is.
func columns() []api.Column {
	return []api.Column{
		required("b", api.Bool), optional("nb", api.Bool), required("i", api.Int), optional("ni", api.Int),
		required("s", api.Text), optional("ns", api.Text), required("t", api.Time), optional("nt", api.Time),
	}
}

// filled returns a row of columns without nulls.
func filled() []api.Value {
	return []api.Value{boolean(1), boolean(0), number(7), number(-5), text("ab"), text(""), moment(1500), moment(0)}
}

// sparse returns a row of columns with as many nulls as there can be.
func sparse() []api.Value {
	return []api.Value{boolean(1), null, number(7), null, text("ab"), null, moment(1500), null}
}

// zones returns zones two of which have the same name.
func zones() []api.Zone {
	return []api.Zone{{Name: "z", Offset: 60}, {Name: "core.y", Offset: -60, Shifts: []api.Shift{{At: 5000}}}, {Name: "z", Offset: 120}}
}

// op returns a node of an operator without other fields.
func op(n int) api.Node { return api.Node{Op: n} }

// constant returns the expression of a constant.
func constant(v api.Value) []api.Node { return []api.Node{{Op: api.OpConst, Value: v}} }

// column returns the expression of a column.
func column(name string) []api.Node { return []api.Node{{Op: api.OpColumn, Name: name}} }

// day returns a node of OpDay.
func day(zone string) api.Node { return api.Node{Op: api.OpDay, Name: zone} }

// call returns a node of OpCall.
func call(name string, arity int) api.Node { return api.Node{Op: api.OpCall, Name: name, Arity: arity} }

// apply returns the expression of a node with its operands.
func apply(n api.Node, operands ...[]api.Node) []api.Node {
	return append(slices.Concat(operands...), n)
}

// parsed returns the expression in a text.
func parsed(t *testing.T, s string) []api.Node {
	t.Helper()
	e, at, err := expr.Parse(s)
	if err != api.OK {
		t.Fatalf("%q: error %d at %d", s, err, at)
	}
	return e
}

// shown returns the text of an expression, if it has one.
func shown(e []api.Node) string {
	s, _ := expr.Format(e)
	return s
}

// wantType reports an error unless an expression over columns and zones has
// this type.
func wantType(t *testing.T, e []api.Node, kind int, nullable bool) {
	t.Helper()
	k, n, err := scalar.Type(e, columns(), zones())
	if k != kind || n != nullable || err != api.OK {
		t.Errorf("Type(%s) = %d, %t, %d, not %d, %t", shown(e), k, n, err, kind, nullable)
	}
}

// wantValue reports an error unless an expression over columns and zones has
// this value for a row.
func wantValue(t *testing.T, e []api.Node, row []api.Value, v api.Value) {
	t.Helper()
	if got, err := scalar.Eval(e, columns(), row, zones()); got != v || err != api.OK {
		t.Errorf("Eval(%s) of %v = %v, %d, not %v", shown(e), row, got, err, v)
	}
}

// wantError reports an error unless Type returns err, and Eval too, for a row
// that fits the columns and for rows that do not.
func wantError(t *testing.T, e []api.Node, l []api.Column, z []api.Zone, err api.Errno) {
	t.Helper()
	if k, n, got := scalar.Type(e, l, z); k != 0 || n || got != err {
		t.Errorf("Type(%s, %v, %v) = %d, %t, %d, not error %d", shown(e), l, z, k, n, got, err)
	}
	for _, row := range [][]api.Value{filled(), nil, {{Kind: 9}}, make([]api.Value, len(l))} {
		if v, got := scalar.Eval(e, l, row, z); v != null || got != err {
			t.Errorf("Eval(%s, %v, %v, %v) = %v, %d, not error %d", shown(e), l, row, z, v, got, err)
		}
	}
}

// The chapter's examples.
func TestExamples(t *testing.T) {
	for s, v := range map[string]api.Value{
		"null and false": boolean(0), "null and true": null, "not null": null, "isnull(null)": boolean(1),
		"1 / 0": null, "1073741824 + 1": null, "coalesce(1 / 0, 7)": number(7),
	} {
		wantValue(t, parsed(t, s), filled(), v)
	}
	wantType(t, parsed(t, "coalesce(1 / 0, 7)"), api.Int, false)
	wantType(t, parsed(t, "null"), api.Null, true)
	wantType(t, parsed(t, "if(true, null, 5)"), api.Int, true)
	wantError(t, parsed(t, "1 + 'a'"), columns(), zones(), api.ErrType)
}

// P9.1 and P9.3: the greatest expressions that are valid.
func TestGreatestExpressions(t *testing.T) {
	negations := apply(op(api.OpNot), column("b"))
	for len(negations) < api.MaxDepth {
		negations = append(negations, op(api.OpNot))
	}
	wantType(t, negations, api.Bool, false)
	wantValue(t, negations, filled(), boolean(0))
	wantError(t, append(negations, op(api.OpNot)), columns(), zones(), api.ErrLimit)

	wide := apply(op(api.OpNegate), balanced(api.MaxNodes/2))
	wantType(t, wide, api.Int, true)
	wantValue(t, wide, filled(), number(-api.MaxNodes/2))
	wantError(t, append(wide, op(api.OpNegate)), columns(), zones(), api.ErrLimit)

	// All operands of the right side are on the stack before the first sum.
	var right []api.Node
	for n := range api.MaxDepth {
		right = append(right, constant(number(1<<(n%20)))...)
	}
	sum := 0
	for n := range api.MaxDepth - 1 {
		right = append(right, op(api.OpSubtract))
		sum += (1 - 2*(n%2)) * (1 << (n % 20))
	}
	sum -= 1 << ((api.MaxDepth - 1) % 20)
	wantValue(t, right, filled(), number(sum))
}

// balanced returns a sum of n ones whose height is as small as possible.
func balanced(n int) []api.Node {
	if n == 1 {
		return constant(number(1))
	}
	return apply(op(api.OpAdd), balanced(n/2), balanced(n-n/2))
}
