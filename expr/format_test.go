package expr_test

import (
	"math/rand"
	"slices"
	"strconv"
	"strings"
	"testing"

	"warehouse/api"
	"warehouse/civil"
	"warehouse/expr"
)

// wantText reports an error unless Format of e is s, and unless Parse of s
// gives e.
func wantText(t *testing.T, s string, e ...api.Node) {
	t.Helper()
	if got, err := expr.Format(e); got != s || err != api.OK {
		t.Errorf("Format(%+v) is %q, %d, not %q", few(e), cut(got), err, cut(s))
	}
	wantNodes(t, s, e...)
}

// sample is an expression with its text and a number that is greater for
// tighter levels, from 1 for or to 9 for primary.
type sample struct {
	text  string
	level int
	e     []api.Node
}

// samples returns expressions of each operator and of each kind of operand.
func samples() []sample {
	c, d := list(column("c")), list(column("d"))
	l := []sample{
		{"not c", 3, apply(op(api.OpNot), c)}, {"-c", 8, apply(op(api.OpNegate), c)}, {"-(5)", 8, list(number(5), op(api.OpNegate))}, {"-5", 8, list(number(-5))}, {"-1073741824", 8, list(number(-api.MaxInt))},
		{"5", 9, list(number(5))}, {"0", 9, list(number(0))}, {"c", 9, c}, {"null", 9, list(null())}, {"true", 9, list(boolean(1))}, {"false", 9, list(boolean(0))}, {"'-5'", 9, list(text("-5"))}, {"@1970-01-01T00:05", 9, list(moment(5))},
		{"isnull(c)", 9, apply(op(api.OpIsNull), c)}, {"length(c)", 9, apply(op(api.OpLength), c)}, {"day(c, z)", 9, apply(day("z"), c)}, {"coalesce(c, d)", 9, apply(op(api.OpCoalesce), c, d)}, {"if(c, d, c)", 9, apply(op(api.OpIf), c, d, c)}, {"f()", 9, list(call("f", 0))}, {"m.f(c)", 9, apply(call("m.f", 1), c)},
	}
	for _, x := range binaries() {
		if !x.swapped {
			l = append(l, sample{"c " + x.word + " d", x.level, x.of(c, d)})
		}
	}
	return l
}

// at returns the text of a sample at a place that needs at least a level.
func (x sample) at(level int) string {
	if x.level < level {
		return "(" + x.text + ")"
	}
	return x.text
}

// P8.6: each operator as an operand of each binary operator.
func TestFormatBinary(t *testing.T) {
	a := list(column("a"))
	for _, y := range binaries() {
		if y.swapped {
			continue
		}
		left, right := y.level, y.level+1
		if y.level == 4 {
			left = right
		}
		for _, x := range samples() {
			wantText(t, x.at(left)+" "+y.word+" a", y.of(x.e, a)...)
			wantText(t, "a "+y.word+" "+x.at(right), y.of(a, x.e)...)
			for _, z := range samples() {
				wantText(t, x.at(left)+" "+y.word+" "+z.at(right), y.of(x.e, z.e)...)
			}
		}
	}
}

// P8.6: each operator as the operand of prefix operators.
func TestFormatPrefix(t *testing.T) {
	for _, x := range samples() {
		wantText(t, "not "+x.at(3), apply(op(api.OpNot), x.e)...)
		wantText(t, "not not "+x.at(3), apply(op(api.OpNot), apply(op(api.OpNot), x.e))...)
		operand := x.at(8)
		if x.e[0].Value.Kind == api.Int && len(x.e) == 1 {
			operand = "(" + x.text + ")"
		}
		wantText(t, "-"+operand, apply(op(api.OpNegate), x.e)...)
		wantText(t, "--"+operand, apply(op(api.OpNegate), apply(op(api.OpNegate), x.e))...)
		wantText(t, "not -"+operand, apply(op(api.OpNot), apply(op(api.OpNegate), x.e))...)
		wantText(t, "-(not "+x.at(3)+")", apply(op(api.OpNegate), apply(op(api.OpNot), x.e))...)
		wantText(t, "a - -"+operand, apply(op(api.OpSubtract), list(column("a")), apply(op(api.OpNegate), x.e))...)
		wantText(t, "(not "+x.at(3)+") ++ a", apply(op(api.OpConcat), apply(op(api.OpNot), x.e), list(column("a")))...)
	}
}

// P8.6: no operand of a call needs parentheses.
func TestFormatCalls(t *testing.T) {
	a := list(column("a"))
	for _, x := range samples() {
		s := x.text
		wantText(t, "isnull("+s+")", apply(op(api.OpIsNull), x.e)...)
		wantText(t, "length("+s+")", apply(op(api.OpLength), x.e)...)
		wantText(t, "day("+s+", z)", apply(day("z"), x.e)...)
		wantText(t, "day("+s+", core.z)", apply(day("core.z"), x.e)...)
		wantText(t, "day("+s+", if)", apply(day("if"), x.e)...)
		wantText(t, "coalesce("+s+", a)", apply(op(api.OpCoalesce), x.e, a)...)
		wantText(t, "coalesce(a, "+s+")", apply(op(api.OpCoalesce), a, x.e)...)
		wantText(t, "if("+s+", a, a)", apply(op(api.OpIf), x.e, a, a)...)
		wantText(t, "if(a, "+s+", a)", apply(op(api.OpIf), a, x.e, a)...)
		wantText(t, "if(a, a, "+s+")", apply(op(api.OpIf), a, a, x.e)...)
		for size := 1; size <= api.MaxParams; size++ {
			all := slices.Repeat(x.e, size)
			wantText(t, "f("+strings.Repeat(s+", ", size-1)+s+")", append(all, call("f", size))...)
			wantText(t, "m.if("+strings.Repeat(s+", ", size-1)+s+")", append(all, call("m.if", size))...)
		}
	}
	wantText(t, "f()", call("f", 0))
	wantText(t, "m.f(g(), h())", call("g", 0), call("h", 0), call("m.f", 2))
	wantText(t, longest+"."+longest+"()", call(longest+"."+longest, 0))
}

// P8.6: constants and columns.
func TestFormatOperands(t *testing.T) {
	for s, n := range map[string]api.Node{
		"null": null(), "true": boolean(1), "false": boolean(0), "0": number(0), "7": number(7), "-7": number(-7), "10": number(10), "1073741824": number(api.MaxInt), "-1073741824": number(-api.MaxInt),
		"''": text(""), "'a'": text("a"), "'null'": text("null"), "''''": text("'"), "'it''s'": text("it's"), "'a # b\n'": text("a # b\n"), "'\x00\xff'": text("\x00\xff"), "'" + widest + "'": text(widest), "'" + strings.Repeat("''", api.MaxText) + "'": text(strings.Repeat("'", api.MaxText)),
		"@1970-01-01T00:00": moment(0), "@2026-11-16T12:34": moment(20773*1440 + 12*60 + 34), "@3065-02-28T23:59": moment(api.MaxTime),
		"a": column("a"), "from": column("from"), "if": column("if"), "day": column("day"), longest: column(longest),
	} {
		wantText(t, s, n)
		wantText(t, "not "+s, n, op(api.OpNot))
		wantText(t, s+" and "+s, n, n, op(api.OpAnd))
		wantText(t, "f("+s+", "+s+")", n, n, call("f", 2))
	}
}

// P8.6: comparisons keep the order of their operands.
func TestFormatComparisons(t *testing.T) {
	wantText(t, "b < a", column("b"), column("a"), op(api.OpLess))
	wantText(t, "b <= a", column("b"), column("a"), op(api.OpLessEqual))
	for s, want := range map[string]string{"a > b + 1": "b + 1 < a", "a>=b": "b <= a", "not a > (b >= c)": "not (c <= b) < a", "(a)>(b)": "b < a", "-a > -5": "-5 < -a"} {
		e := parsed(s)
		wantText(t, want, e...)
	}
}

// P8.6: the chapter's examples.
func TestFormatExamples(t *testing.T) {
	wantText(t, "b + 1 < a", column("b"), number(1), op(api.OpAdd), column("a"), op(api.OpLess))
	wantText(t, "-5", number(-5))
	wantText(t, "-(5)", number(5), op(api.OpNegate))
	wantText(t, "-(-5)", number(-5), op(api.OpNegate))
	wantText(t, "not a and b", column("a"), op(api.OpNot), column("b"), op(api.OpAnd))
	wantText(t, "not (a and b)", column("a"), column("b"), op(api.OpAnd), op(api.OpNot))
}

// P8.6: the longest texts of expressions stay below MaxSource bytes.
func TestFormatLongTexts(t *testing.T) {
	long := text(strings.Repeat("'", api.MaxText))
	written := "'" + strings.Repeat("''", api.MaxText) + "'"
	e, s := list(long), written
	for len(e)+api.MaxParams <= api.MaxNodes {
		name := longest + "." + longest
		e = append(append(e, slices.Repeat(list(long), api.MaxParams-1)...), call(name, api.MaxParams))
		s = name + "(" + s + strings.Repeat(", "+written, api.MaxParams-1) + ")"
	}
	wantText(t, s, e...)
	wantText(t, strings.Repeat("not ", api.MaxDepth-1)+"a", tower(api.MaxDepth)...)
	wantText(t, strings.Repeat("-", api.MaxDepth-1)+"a", append(list(column("a")), slices.Repeat(list(op(api.OpNegate)), api.MaxDepth-1)...)...)
	nested, nodes := "a", list(column("a"))
	for range api.MaxDepth - 1 {
		nested, nodes = "a - ("+nested+")", apply(op(api.OpSubtract), list(column("a")), nodes)
	}
	wantText(t, strings.Replace(nested, "(a)", "a", 1), nodes...)
}

// anyExpression returns a random expression of at most the given height.
func anyExpression(r *rand.Rand, height int) []api.Node {
	if height == 1 || r.Intn(6) == 0 {
		leaves := list(column("a"), column("if"), number(0), number(5), number(-5), null(), boolean(1), text("it's"), text("(a"), moment(1441), call("m.f", 0))
		return list(leaves[r.Intn(len(leaves))])
	}
	nodes := append(kinds()[2:], call("f", 1), call("m.if", 3), op(api.OpNegate), op(api.OpNot))
	n := nodes[r.Intn(len(nodes))]
	var e []api.Node
	for range expr.Arity(n) {
		e = append(e, anyExpression(r, height-1)...)
	}
	return append(e, n)
}

// operandsOf returns the operands of the last node of an expression.
func operandsOf(e []api.Node) [][]api.Node {
	var stack [][]api.Node
	for i, n := range e[:len(e)-1] {
		first := len(stack) - expr.Arity(n)
		size := 1
		for _, operand := range stack[first:] {
			size += len(operand)
		}
		stack = append(stack[:first], e[i+1-size:i+1])
	}
	return stack
}

// bare returns the text of a node with the texts of its operands.
func bare(n api.Node, operands []string) string {
	words := map[int]string{api.OpIsNull: "isnull", api.OpLength: "length", api.OpIf: "if", api.OpCoalesce: "coalesce", api.OpCall: n.Name}
	switch n.Op {
	case api.OpConst:
		switch {
		case n.Value.Kind == api.Text:
			return "'" + strings.ReplaceAll(n.Value.Str, "'", "''") + "'"
		case n.Value.Kind == api.Time:
			s, _ := civil.Format(n.Value.Num)
			return "@" + s
		case n.Value.Kind == api.Int:
			return strconv.Itoa(n.Value.Num)
		case n.Value.Kind == api.Bool:
			return "true"
		}
		return "null"
	case api.OpColumn:
		return n.Name
	case api.OpNot:
		return "not " + operands[0]
	case api.OpNegate:
		return "-" + operands[0]
	case api.OpDay:
		return "day(" + operands[0] + ", " + n.Name + ")"
	}
	if s, ok := words[n.Op]; ok {
		return s + "(" + strings.Join(operands, ", ") + ")"
	}
	for _, x := range binaries() {
		if x.op == n.Op && !x.swapped {
			return operands[0] + " " + x.word + " " + operands[1]
		}
	}
	return ""
}

// referenceText is Format, which finds out for each operand whether it needs
// parentheses: whether Parse reads something else without them.
func referenceText(e []api.Node) string {
	n, operands := e[len(e)-1], operandsOf(e)
	var enclosed, texts []string
	for _, operand := range operands {
		s := referenceText(operand)
		texts, enclosed = append(texts, s), append(enclosed, "("+s+")")
	}
	for i, s := range texts {
		attempt := slices.Clone(enclosed)
		attempt[i] = s
		got, _, err := expr.Parse(bare(n, attempt))
		isConstant := len(operands[i]) == 1 && operands[i][0].Value.Kind == api.Int
		if err != api.OK || !slices.Equal(got, e) || n.Op == api.OpNegate && isConstant {
			texts[i] = enclosed[i]
		}
	}
	return bare(n, texts)
}

// P8.6: random expressions have parentheses exactly where Parse needs them.
func TestFormatRandomExpressions(t *testing.T) {
	r := rand.New(rand.NewSource(8))
	for range 4000 {
		if e := anyExpression(r, 1+r.Intn(6)); len(e) <= api.MaxNodes {
			wantText(t, referenceText(e), e...)
		}
	}
}
