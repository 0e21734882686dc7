package expr

import "warehouse/api"

// Levels of operators, from the loosest to the tightest.
const (
	levelOr = iota
	levelAnd
	levelNot
	levelCompare
	levelConcat
	levelSum
	levelProduct
	levelUnary
	levelPrimary
)

// infix is a binary operator. The node of a swapped one has the operands in
// the opposite order.
type infix struct {
	word    string
	level   int
	op      int
	swapped bool
}

// infixes are the binary operators.
var infixes = [...]infix{
	{"or", levelOr, api.OpOr, false},
	{"and", levelAnd, api.OpAnd, false},
	{"=", levelCompare, api.OpEqual, false},
	{"!=", levelCompare, api.OpNotEqual, false},
	{"<", levelCompare, api.OpLess, false},
	{"<=", levelCompare, api.OpLessEqual, false},
	{">", levelCompare, api.OpLess, true},
	{">=", levelCompare, api.OpLessEqual, true},
	{"++", levelConcat, api.OpConcat, false},
	{"+", levelSum, api.OpAdd, false},
	{"-", levelSum, api.OpSubtract, false},
	{"*", levelProduct, api.OpMultiply, false},
	{"/", levelProduct, api.OpDivide, false},
	{"%", levelProduct, api.OpModulo, false},
}

// infixOfWord returns the binary operator of a level that is written as word.
func infixOfWord(word string, level int) (o infix, ok bool) {
	for _, o := range infixes {
		if o.word == word && o.level == level {
			return o, true
		}
	}
	return infix{}, false
}

// infixOfOp returns the binary operator in which a node with this Op is
// written, with the operands in their order.
func infixOfOp(op int) (o infix, ok bool) {
	for _, o := range infixes {
		if o.op == op && !o.swapped {
			return o, true
		}
	}
	return infix{}, false
}

// builtin is a built-in function.
type builtin struct {
	name string
	op   int
}

// builtins are the built-in functions.
var builtins = [...]builtin{
	{"if", api.OpIf},
	{"coalesce", api.OpCoalesce},
	{"isnull", api.OpIsNull},
	{"length", api.OpLength},
	{"day", api.OpDay},
}

// builtinOp returns the operator of the built-in function with this name.
func builtinOp(name string) (op int, ok bool) {
	for _, f := range builtins {
		if f.name == name {
			return f.op, true
		}
	}
	return 0, false
}

// functionName returns the name of the function that a node calls.
func functionName(n api.Node) string {
	for _, f := range builtins {
		if f.op == n.Op {
			return f.name
		}
	}
	return n.Name
}
