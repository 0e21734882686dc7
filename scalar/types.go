package scalar

import (
	"warehouse/api"
	"warehouse/expr"
)

// outcome is what is known of the value of an expression before there is a row.
type outcome struct {
	kind     int
	nullable bool
}

// infer returns the outcome of a valid expression, ErrUnknown for a name that
// denotes nothing, or ErrType for an operator that does not fit its operands.
func (s scope) infer(e []api.Node) (outcome, api.Errno) {
	var stack []outcome
	for _, n := range e {
		if !s.knows(n) {
			return outcome{}, api.ErrUnknown
		}
		first := len(stack) - expr.Arity(n)
		o, ok := s.outcomeOf(n, stack[first:])
		if !ok {
			return outcome{}, api.ErrType
		}
		stack = append(stack[:first], o)
	}
	return stack[0], api.OK
}

// outcomeOf returns the outcome of a node, and whether it fits its operands.
func (s scope) outcomeOf(n api.Node, operands []outcome) (o outcome, ok bool) {
	switch n.Op {
	case api.OpConst:
		return outcome{n.Value.Kind, n.Value.Kind == api.Null}, true
	case api.OpColumn:
		c := s.columns[s.places[n.Name]]
		return outcome{c.Kind, c.Nullable}, true
	case api.OpNot, api.OpAnd, api.OpOr:
		return outcome{api.Bool, someNullable(operands)}, allFit(operands, api.Bool)
	case api.OpNegate:
		return outcome{api.Int, someNullable(operands)}, allFit(operands, api.Int)
	case api.OpAdd, api.OpSubtract:
		return outcomeOfSum(n.Op, operands[0], operands[1])
	case api.OpMultiply, api.OpDivide, api.OpModulo:
		return outcome{api.Int, true}, allFit(operands, api.Int)
	case api.OpConcat:
		return outcome{api.Text, true}, allFit(operands, api.Text)
	case api.OpEqual, api.OpNotEqual, api.OpLess, api.OpLessEqual:
		_, ok := common(operands[0], operands[1])
		return outcome{api.Bool, someNullable(operands)}, ok
	case api.OpIsNull:
		return outcome{api.Bool, false}, true
	case api.OpIf:
		kind, ok := common(operands[1], operands[2])
		return outcome{kind, someNullable(operands[1:])}, ok && fits(operands[0], api.Bool)
	case api.OpCoalesce:
		kind, ok := common(operands[0], operands[1])
		return outcome{kind, operands[0].nullable && operands[1].nullable}, ok
	case api.OpLength:
		return outcome{api.Int, someNullable(operands)}, allFit(operands, api.Text)
	case api.OpDay:
		return outcome{api.Int, someNullable(operands)}, allFit(operands, api.Time)
	}
	return outcome{}, false
}

// outcomeOfSum returns the outcome of OpAdd or OpSubtract, and whether it fits
// its operands. An operand that is always null fits several cases; it counts as
// what the first one of them needs.
func outcomeOfSum(op int, a, b outcome) (o outcome, ok bool) {
	switch {
	case fits(a, api.Int) && fits(b, api.Int):
		return outcome{api.Int, true}, true
	case fits(a, api.Time) && fits(b, api.Int):
		return outcome{api.Time, true}, true
	case op == api.OpSubtract && fits(a, api.Time) && fits(b, api.Time):
		return outcome{api.Int, a.nullable || b.nullable}, true
	}
	return outcome{}, false
}

// fits reports whether an operand may stand where a kind is needed.
func fits(operand outcome, kind int) bool {
	return operand.kind == kind || operand.kind == api.Null
}

// allFit reports whether each operand may stand where a kind is needed.
func allFit(operands []outcome, kind int) bool {
	for _, o := range operands {
		if !fits(o, kind) {
			return false
		}
	}
	return true
}

// common returns the kind of two operands that need to have the same one, and
// whether they have.
func common(a, b outcome) (kind int, ok bool) {
	if a.kind == api.Null {
		return b.kind, true
	}
	return a.kind, fits(b, a.kind)
}

// someNullable reports whether an operand can be null.
func someNullable(operands []outcome) bool {
	for _, o := range operands {
		if o.nullable {
			return true
		}
	}
	return false
}
