package scalar

import (
	"slices"

	"warehouse/api"
	"warehouse/exact"
	"warehouse/expr"
	"warehouse/value"
	"warehouse/zone"
)

// compute returns the value of an expression that has a type, for a row that
// fits the columns.
func (s scope) compute(e []api.Node, row []api.Value) api.Value {
	var stack []api.Value
	for _, n := range e {
		first := len(stack) - expr.Arity(n)
		stack = append(stack[:first], s.valueOf(n, row, stack[first:]))
	}
	return stack[0]
}

// valueOf returns the value of a node for a row.
func (s scope) valueOf(n api.Node, row, operands []api.Value) api.Value {
	switch n.Op {
	case api.OpConst:
		return n.Value
	case api.OpColumn:
		return row[s.places[n.Name]]
	case api.OpAnd:
		return combine(operands[0], operands[1], 0)
	case api.OpOr:
		return combine(operands[0], operands[1], 1)
	case api.OpIsNull:
		return boolean(isNull(operands[0]))
	case api.OpIf:
		if value.Truth(operands[0]) == 1 {
			return operands[1]
		}
		return operands[2]
	case api.OpCoalesce:
		if isNull(operands[0]) {
			return operands[1]
		}
		return operands[0]
	}
	if slices.ContainsFunc(operands, isNull) {
		return api.Value{}
	}
	if expr.Arity(n) == 1 {
		return s.unary(n, operands[0])
	}
	return binary(n.Op, operands[0], operands[1])
}

// combine returns the value of OpAnd or OpOr: decisive is the number of the
// boolean that decides it, whatever the other operand is.
func combine(a, b api.Value, decisive int) api.Value {
	x, y := value.Truth(a), value.Truth(b)
	switch {
	case x == decisive || y == decisive:
		return boolean(decisive == 1)
	case isNull(a) || isNull(b):
		return api.Value{}
	}
	return boolean(decisive == 0)
}

// unary returns the value of a node with one operand, which is not null.
func (s scope) unary(n api.Node, a api.Value) api.Value {
	switch n.Op {
	case api.OpNot:
		return boolean(value.Truth(a) == 0)
	case api.OpNegate:
		return integer(exact.Subtract(0, a.Num))
	case api.OpLength:
		return integer(len(a.Str), true)
	case api.OpDay:
		day, err := zone.Day(s.zones[n.Name], a.Num)
		return integer(day, err == api.OK)
	}
	return api.Value{}
}

// binary returns the value of an operator with two operands that are not null.
func binary(op int, a, b api.Value) api.Value {
	switch op {
	case api.OpAdd:
		return sum(a, b)
	case api.OpSubtract:
		return difference(a, b)
	case api.OpMultiply:
		return integer(exact.Multiply(a.Num, b.Num))
	case api.OpDivide:
		return integer(exact.Divide(a.Num, b.Num))
	case api.OpModulo:
		return integer(exact.Modulo(a.Num, b.Num))
	case api.OpConcat:
		return text(a.Str + b.Str)
	case api.OpEqual:
		return boolean(value.Compare(a, b) == 0)
	case api.OpNotEqual:
		return boolean(value.Compare(a, b) != 0)
	case api.OpLess:
		return boolean(value.Compare(a, b) < 0)
	case api.OpLessEqual:
		return boolean(value.Compare(a, b) <= 0)
	}
	return api.Value{}
}

// sum returns an integer or a time plus an integer.
func sum(a, b api.Value) api.Value {
	if a.Kind == api.Time {
		return instant(a.Num + b.Num)
	}
	return integer(exact.Add(a.Num, b.Num))
}

// difference returns an integer minus an integer, or a time minus an integer or
// a time.
func difference(a, b api.Value) api.Value {
	if a.Kind == api.Time && b.Kind == api.Int {
		return instant(a.Num - b.Num)
	}
	return integer(exact.Subtract(a.Num, b.Num))
}

// isNull reports whether v is null.
func isNull(v api.Value) bool {
	return v.Kind == api.Null
}

// boolean returns true or false as a value.
func boolean(b bool) api.Value {
	if b {
		return api.Value{Kind: api.Bool, Num: 1}
	}
	return api.Value{Kind: api.Bool}
}

// integer returns n as a value, or null if n is not ok.
func integer(n int, ok bool) api.Value {
	if !ok {
		return api.Value{}
	}
	return api.Value{Kind: api.Int, Num: n}
}

// instant returns the time t, or null if there is no such time.
func instant(t int) api.Value {
	return orNull(api.Value{Kind: api.Time, Num: t})
}

// text returns s as a value, or null if it is too long for one.
func text(s string) api.Value {
	return orNull(api.Value{Kind: api.Text, Str: s})
}

// orNull returns v, or null if v is not valid.
func orNull(v api.Value) api.Value {
	if !value.Valid(v) {
		return api.Value{}
	}
	return v
}
