package expr

import (
	"strconv"
	"strings"

	"warehouse/api"
	"warehouse/token"
)

// piece is the text of an expression.
type piece struct {
	text  string
	level int
	// integer says that the expression is an integer constant.
	integer bool
}

// Format returns the text of an expression, which Parse reads again. It returns
// the error of Validate, or ErrLimit if the text is too long (P8.6).
func Format(e []api.Node) (string, api.Errno) {
	if err := Validate(e); err != api.OK {
		return "", err
	}
	var stack []piece
	for _, n := range e {
		first := len(stack) - Arity(n)
		stack = append(stack[:first], write(n, stack[first:]))
	}
	return fit(stack[0].text)
}

// fit returns a text, or ErrLimit if it is too long.
func fit(text string) (string, api.Errno) {
	if len(text) > api.MaxSource {
		return "", api.ErrLimit
	}
	return text, api.OK
}

// write returns the text of a node with its operands.
func write(n api.Node, operands []piece) piece {
	switch n.Op {
	case api.OpConst:
		return writeConstant(n.Value)
	case api.OpColumn:
		return piece{text: n.Name, level: levelPrimary}
	case api.OpNot:
		return piece{text: "not " + enclose(operands[0], levelNot), level: levelNot}
	case api.OpNegate:
		return piece{text: "-" + enclose(operands[0], levelOfNegated(operands[0])), level: levelUnary}
	}
	if o, ok := infixOfOp(n.Op); ok {
		return writeInfix(o, operands[0], operands[1])
	}
	return writeCall(n, operands)
}

// enclose returns the text of an operand for a place that the syntax gives a
// level.
func enclose(operand piece, level int) string {
	if operand.level < level {
		return "(" + operand.text + ")"
	}
	return operand.text
}

// levelOfNegated returns the level that the operand of OpNegate needs. An
// integer behind a minus sign would become a constant with it, so that it needs
// a level tighter than any.
func levelOfNegated(operand piece) int {
	if operand.integer {
		return levelPrimary + 1
	}
	return levelUnary
}

// writeInfix returns the text of a binary operator with its operands.
func writeInfix(o infix, left, right piece) piece {
	level := o.level
	// Operators of the other levels are grouped from the left.
	if level == levelCompare {
		level++
	}
	return piece{text: enclose(left, level) + " " + o.word + " " + enclose(right, o.level+1), level: o.level}
}

// writeCall returns the text of a call of a function.
func writeCall(n api.Node, operands []piece) piece {
	var texts []string
	for _, operand := range operands {
		texts = append(texts, operand.text)
	}
	if n.Op == api.OpDay {
		texts = append(texts, n.Name)
	}
	return piece{text: functionName(n) + "(" + strings.Join(texts, ", ") + ")", level: levelPrimary}
}

// writeConstant returns the text of a constant.
func writeConstant(v api.Value) piece {
	text, level := "null", levelPrimary
	switch v.Kind {
	case api.Bool:
		text = strconv.FormatBool(v.Num == 1)
	case api.Int:
		text = strconv.Itoa(v.Num)
		if v.Num < 0 {
			level = levelUnary
		}
	case api.Text:
		text = writeToken(api.Token{Kind: api.TokText, Text: v.Str})
	case api.Time:
		text = writeToken(api.Token{Kind: api.TokTime, Num: v.Num})
	}
	return piece{text: text, level: level, integer: v.Kind == api.Int}
}

// writeToken returns the text of a token, which is valid.
func writeToken(t api.Token) string {
	text, _ := token.Join([]api.Token{t, {Kind: api.TokEnd}})
	return text
}
