package expr_test

import (
	"math"
	"slices"
	"strings"
	"testing"

	"warehouse/api"
	"warehouse/expr"
)

// longest is a name of the greatest length that a name without a module may
// have, and widest a text of the greatest length.
var longest, widest = strings.Repeat("n", api.MaxName), strings.Repeat("x", api.MaxText)

// constant returns a constant.
func constant(v api.Value) api.Node { return api.Node{Op: api.OpConst, Value: v} }

// null returns the constant null.
func null() api.Node { return constant(api.Value{}) }

// boolean returns a boolean constant.
func boolean(n int) api.Node { return constant(api.Value{Kind: api.Bool, Num: n}) }

// number returns an integer constant.
func number(n int) api.Node { return constant(api.Value{Kind: api.Int, Num: n}) }

// text returns a text constant.
func text(s string) api.Node { return constant(api.Value{Kind: api.Text, Str: s}) }

// moment returns a time constant.
func moment(n int) api.Node { return constant(api.Value{Kind: api.Time, Num: n}) }

// column returns a column.
func column(s string) api.Node { return api.Node{Op: api.OpColumn, Name: s} }

// op returns a node of an operator without other fields.
func op(n int) api.Node { return api.Node{Op: n} }

// day returns a node of OpDay.
func day(zone string) api.Node { return api.Node{Op: api.OpDay, Name: zone} }

// call returns a call with n operands.
func call(s string, n int) api.Node { return api.Node{Op: api.OpCall, Name: s, Arity: n} }

// list returns a list of nodes.
func list(nodes ...api.Node) []api.Node { return nodes }

// apply returns the expression of a node with its operands.
func apply(n api.Node, operands ...[]api.Node) []api.Node {
	return append(slices.Concat(operands...), n)
}

// tower returns an expression of the given height.
func tower(height int) []api.Node {
	return append(list(column("a")), slices.Repeat(list(op(api.OpNot)), height-1)...)
}

// flat returns an expression of size nodes and a small height.
func flat(size int) []api.Node {
	switch {
	case size < 3:
		return tower(size)
	case size%2 == 0:
		return apply(op(api.OpNot), flat(size-1))
	}
	left := (size - 1) / 4 * 2
	return apply(op(api.OpAnd), flat(left+1), flat(size-left-2))
}

// kinds returns a node of each operator, with the fields that it uses.
func kinds() []api.Node {
	l := list(number(1), column("a"))
	for o := api.OpNot; o <= api.OpLength; o++ {
		l = append(l, op(o))
	}
	return append(l, day("z"), call("f", 2))
}

// few returns the first nodes of a list, for messages.
func few(e []api.Node) []api.Node { return e[:min(len(e), 12)] }

// cut returns the beginning of a text, for messages.
func cut(s string) string { return s[:min(len(s), 80)] }

// wantErrno reports an error unless Validate of e is err, and unless Format
// returns the same error.
func wantErrno(t *testing.T, e []api.Node, err api.Errno) {
	t.Helper()
	if got := expr.Validate(e); got != err {
		t.Errorf("Validate(%+v) of %d nodes is %d, not %d", few(e), len(e), got, err)
	}
	if s, got := expr.Format(e); got != err || (s == "") != (err != api.OK) {
		t.Errorf("Format(%+v) of %d nodes is %q, %d, not %d", few(e), len(e), cut(s), got, err)
	}
}

// P8.1: each operator, with any other fields.
func TestArity(t *testing.T) {
	want := []int{0, 0, 1, 1, 2, 2, 2, 2, 2, 2, 2, 2, 2, 2, 2, 2, 1, 3, 2, 1, 1}
	for o, n := range want {
		for _, arity := range []int{math.MinInt, -1, 0, 1, 7, math.MaxInt} {
			x := api.Node{Op: o, Arity: arity, Name: "a", Value: api.Value{Kind: 9, Num: 5, Str: "s"}}
			if got := expr.Arity(x); got != n {
				t.Errorf("Arity(%+v) is %d, not %d", x, got, n)
			}
			if got := expr.Arity(op(o)); got != n {
				t.Errorf("Arity of %d is %d, not %d", o, got, n)
			}
		}
	}
	for _, n := range []int{math.MinInt, -2, -1, 0, 1, 2, api.MaxParams, api.MaxParams + 1, math.MaxInt} {
		for _, s := range []string{"f", "", "if"} {
			if got := expr.Arity(call(s, n)); got != n {
				t.Errorf("Arity of a call with %d is %d", n, got)
			}
		}
	}
	for _, o := range []int{math.MinInt, math.MinInt32, -1 << 32, -22, -2, -1, 22, 23, 255, 256, 257, 260, 277, 1 << 32, 1<<32 + 1, math.MaxInt} {
		for _, arity := range []int{-1, 0, 1, 7} {
			if got := expr.Arity(api.Node{Op: o, Arity: arity}); got != -1 {
				t.Errorf("Arity of %d is %d", o, got)
			}
		}
	}
}

// P8.2: each operator with its operands, one less and one more, on different
// numbers of expressions.
func TestValidateOperands(t *testing.T) {
	for _, n := range kinds() {
		for size := range 5 {
			want := api.ErrShape
			if size == expr.Arity(n) {
				want = api.OK
			}
			wantErrno(t, append(slices.Repeat(list(number(1)), size), n), want)
			wantErrno(t, append(slices.Repeat(list(call("g", 0)), size), n), want)
			wantErrno(t, append(slices.Repeat(list(column("b"), op(api.OpNot)), size), n), want)
		}
	}
	for size := range api.MaxParams + 3 {
		for arity := -1; arity < api.MaxParams+3; arity++ {
			want := api.ErrShape
			if size == arity && arity <= api.MaxParams {
				want = api.OK
			}
			wantErrno(t, append(slices.Repeat(list(text("a")), size), call("m.f", arity)), want)
		}
	}
	for _, arity := range []int{math.MinInt, math.MinInt32, -2, 256, 257, 1 << 32, math.MaxInt} {
		wantErrno(t, list(call("f", arity)), api.ErrShape)
		wantErrno(t, list(number(1), call("f", arity)), api.ErrShape)
	}
}

// P8.2: exactly one expression.
func TestValidateOneExpression(t *testing.T) {
	wantErrno(t, nil, api.ErrShape)
	wantErrno(t, []api.Node{}, api.ErrShape)
	wantErrno(t, list(null()), api.OK)
	wantErrno(t, list(number(1), number(2)), api.ErrShape)
	wantErrno(t, list(number(1), number(2), op(api.OpAdd)), api.OK)
	wantErrno(t, list(number(1), op(api.OpAdd), number(2)), api.ErrShape)
	wantErrno(t, list(op(api.OpAdd), number(1), number(2)), api.ErrShape)
	wantErrno(t, list(number(1), number(2), op(api.OpAdd), number(3)), api.ErrShape)
	wantErrno(t, list(number(1), number(2), number(3), op(api.OpAdd)), api.ErrShape)
	wantErrno(t, list(number(1), number(2), number(3), op(api.OpAdd), op(api.OpAdd)), api.OK)
	wantErrno(t, list(call("f", 0), call("f", 0), call("f", 0), call("f", 2)), api.ErrShape)
	wantErrno(t, list(call("f", 0), call("f", 0), call("f", 0), call("f", 3)), api.OK)
	wantErrno(t, slices.Repeat(list(number(1)), api.MaxNodes), api.ErrShape)
}

// P8.2: there are no other operators.
func TestValidateOps(t *testing.T) {
	for _, o := range []int{math.MinInt, math.MinInt32, -1 << 32, -2, -1, 22, 23, 255, 256, 257, 278, 1 << 32, 1<<32 + 1, math.MaxInt} {
		for _, n := range []api.Node{op(o), {Op: o, Name: "a"}, {Op: o, Value: api.Value{Kind: api.Int}}, {Op: o, Name: "f", Arity: 1}} {
			for size := range 4 {
				wantErrno(t, append(slices.Repeat(list(number(1)), size), n), api.ErrShape)
			}
		}
	}
}

// P8.2: fields that an operator does not use.
func TestValidateOtherFields(t *testing.T) {
	for _, n := range kinds() {
		operands := slices.Repeat(list(number(1)), expr.Arity(n))
		wantErrno(t, append(operands, n), api.OK)
		if n.Op != api.OpConst {
			for _, v := range []api.Value{{Kind: api.Bool}, {Kind: api.Int}, {Kind: api.Text, Str: "a"}, {Num: 1}, {Num: -1}, {Str: "a"}, {Kind: -1}, {Kind: 9}} {
				x := n
				x.Value = v
				wantErrno(t, append(slices.Clip(operands), x), api.ErrShape)
			}
		}
		if n.Name == "" {
			for _, s := range []string{"a", "z", "A", " ", "if", "a.b", "\x00"} {
				x := n
				x.Name = s
				wantErrno(t, append(slices.Clip(operands), x), api.ErrShape)
			}
		}
		if n.Op != api.OpCall {
			for _, arity := range []int{math.MinInt, -1, 1, 2, 3, expr.Arity(n) + 4, math.MaxInt} {
				x := n
				x.Arity = arity
				wantErrno(t, append(slices.Clip(operands), x), api.ErrShape)
			}
		}
	}
}

// P8.2: constants that are values, and others.
func TestValidateConstants(t *testing.T) {
	for _, n := range list(null(), boolean(0), boolean(1), number(0), number(-1), number(api.MaxInt), number(-api.MaxInt), text(""), text("it's"), text(widest), text("\x00\xff"), moment(0), moment(api.MaxTime)) {
		wantErrno(t, list(n), api.OK)
		wantErrno(t, list(n, n, op(api.OpEqual)), api.OK)
	}
	for _, n := range list(boolean(-1), boolean(2), number(api.MaxInt+1), number(-api.MaxInt-1), number(math.MinInt), number(math.MaxInt), text(widest+"x"), moment(-1), moment(api.MaxTime+1)) {
		wantErrno(t, list(n), api.ErrShape)
		wantErrno(t, list(number(1), n, op(api.OpEqual)), api.ErrShape)
	}
	for _, v := range []api.Value{{Num: 1}, {Str: "a"}, {Kind: api.Bool, Str: "a"}, {Kind: api.Int, Num: 1, Str: "1"}, {Kind: api.Text, Num: 1}, {Kind: api.Time, Str: "a"}, {Kind: -1}, {Kind: 5}, {Kind: 258}, {Kind: 1<<32 + 2}} {
		wantErrno(t, list(constant(v)), api.ErrShape)
	}
}

// P8.2: names for OpColumn, OpDay and OpCall.
func TestValidateNames(t *testing.T) {
	wantNames := func(plain, qualified api.Errno, names ...string) {
		t.Helper()
		for _, s := range names {
			wantErrno(t, list(column(s)), plain)
			wantErrno(t, list(column(s), op(api.OpNegate)), plain)
			wantErrno(t, list(moment(1), day(s)), qualified)
			wantErrno(t, list(call(s, 0)), qualified)
			wantErrno(t, list(number(1), call(s, 1)), qualified)
		}
	}
	wantNames(api.OK, api.OK, "a", "z", "a1", "a_", "from", "where", "where_", "iff", "is", "days", "null_", "nul", "an", "nots", longest)
	wantNames(api.ErrShape, api.OK, "a.b", "core.z", "by.a", "a.by", "a.null", "not.and", "if.day", "m.if", "m.day", longest+"."+longest)
	wantNames(api.ErrShape, api.ErrShape, "and", "or", "not", "null", "true", "false", "by", "self")
	wantNames(api.ErrShape, api.ErrShape, "", ".", "a.", ".a", "a..b", "a.b.c", "1", "1a", "_a", "A", "a.B", "a b", " a", "a ", "é", "a\x00", "+", "(", longest+"n", "a."+longest+"n", longest+"n.a")
	for _, s := range []string{"if", "coalesce", "isnull", "length", "day"} {
		wantErrno(t, list(column(s)), api.OK)
		wantErrno(t, list(moment(1), day(s)), api.OK)
		for size := range 4 {
			wantErrno(t, append(slices.Repeat(list(number(1)), size), call(s, size)), api.ErrShape)
		}
	}
}

// P8.2: MaxNodes nodes and more.
func TestValidateNodes(t *testing.T) {
	for size := 1; size <= api.MaxNodes+3; size++ {
		want := api.OK
		if size > api.MaxNodes {
			want = api.ErrLimit
		}
		if e := flat(size); len(e) != size {
			t.Errorf("%d nodes, not %d", len(e), size)
		}
		wantErrno(t, flat(size), want)
	}
	bad := op(99)
	for _, size := range []int{api.MaxNodes + 1, api.MaxNodes + 2, 2 * api.MaxNodes, 1 << 16} {
		for _, n := range list(null(), bad, op(api.OpAdd), number(math.MaxInt), column("")) {
			wantErrno(t, slices.Repeat(list(n), size), api.ErrLimit)
		}
	}
	wantErrno(t, slices.Repeat(list(bad), api.MaxNodes), api.ErrShape)
	wantErrno(t, slices.Repeat(list(op(api.OpAdd)), api.MaxNodes), api.ErrShape)
}

// P8.2: heights of MaxDepth and more, with each operator at the top and with
// the highest operand at each place.
func TestValidateHeights(t *testing.T) {
	for height := 1; height <= api.MaxDepth+4; height++ {
		want, above := api.OK, api.OK
		if height > api.MaxDepth {
			want = api.ErrLimit
		}
		if height >= api.MaxDepth {
			above = api.ErrLimit
		}
		wantErrno(t, tower(height), want)
		for _, n := range append(kinds(), call("f", 1), call("f", api.MaxParams)) {
			arity := expr.Arity(n)
			for place := range arity {
				operands := slices.Repeat([][]api.Node{list(number(1))}, arity)
				operands[place] = tower(height)
				wantErrno(t, apply(n, operands...), above)
			}
		}
	}
	// The height of an operand that stays on the stack does not count.
	wantErrno(t, apply(op(api.OpAnd), tower(api.MaxDepth-1), tower(api.MaxDepth-1)), api.OK)
	wantErrno(t, apply(op(api.OpOr), apply(op(api.OpAnd), tower(40), tower(50)), tower(20)), api.OK)
	chain := list(number(1))
	for range api.MaxDepth - 1 {
		chain = append(chain, number(1), op(api.OpCoalesce))
	}
	wantErrno(t, chain, api.OK)
	wantErrno(t, append(chain, number(1), op(api.OpCoalesce)), api.ErrLimit)
	wantErrno(t, append(list(number(1)), append(chain, op(api.OpCoalesce))...), api.ErrLimit)
}

// P8.2: the errors of a node come before those of the next one; its fields
// before its operands before its height (R6).
func TestValidateOrdersErrors(t *testing.T) {
	high, bad := tower(api.MaxDepth), op(99)
	for _, n := range list(bad, op(api.OpAdd), column(""), number(math.MinInt), call("f", 9), call("f", -1), call("if", 1), api.Node{Op: api.OpNot, Name: "a"}, api.Node{Op: api.OpNot, Arity: 1}) {
		wantErrno(t, apply(n, high), api.ErrShape)
		wantErrno(t, apply(op(api.OpNot), apply(n, high)), api.ErrShape)
		wantErrno(t, append(slices.Clone(high), n, op(api.OpNot)), api.ErrShape)
		wantErrno(t, append(slices.Clone(high), op(api.OpNot), n), api.ErrLimit)
		wantErrno(t, append(list(n), append(slices.Clone(high), op(api.OpNot))...), api.ErrShape)
	}
	// Too few operands, the highest of which would give too high a node.
	wantErrno(t, apply(op(api.OpAdd), high), api.ErrShape)
	wantErrno(t, apply(op(api.OpIf), list(number(1)), high), api.ErrShape)
	wantErrno(t, apply(op(api.OpIf), list(number(1)), high, list(number(1))), api.ErrLimit)
	// More than one expression is found at the end only.
	wantErrno(t, append(list(number(1)), append(slices.Clone(high), op(api.OpNot))...), api.ErrLimit)
	wantErrno(t, append(list(number(1)), high...), api.ErrShape)
	wantErrno(t, append(append(slices.Clone(high), op(api.OpNot)), number(1)), api.ErrLimit)
	wantErrno(t, append(append(slices.Clone(high), op(api.OpNot)), flat(api.MaxNodes)...), api.ErrLimit)
}
