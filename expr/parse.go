package expr

import (
	"warehouse/api"
	"warehouse/token"
)

// maxOpen is the greatest number of open parentheses and prefix operators
// around an operand. It limits the depth of the parser's recursion.
const maxOpen = 4 * api.MaxDepth

// Parse returns the expression that a text consists of. With an error, at is
// the byte offset at which it is found (P8.5).
func Parse(text string) (e []api.Node, at int, err api.Errno) {
	tokens, at, err := token.Split(text)
	if err != api.OK {
		return nil, at, err
	}
	e, next, err := ParseAt(tokens, 0)
	if err == api.OK && tokens[next].Kind != api.TokEnd {
		err = api.ErrSyntax
	}
	if err != api.OK {
		return nil, tokens[next].At, err
	}
	return e, 0, api.OK
}

// ParseAt returns the longest expression that begins with token number at, and
// the number of the token behind it. With an error of the expression, next is
// the number of the token at which it is found (P8.4).
func ParseAt(tokens []api.Token, at int) (e []api.Node, next int, err api.Errno) {
	if err = token.Validate(tokens); err != api.OK {
		return nil, 0, err
	}
	if at < 0 || at >= len(tokens) {
		return nil, 0, api.ErrRange
	}
	p := parser{tokens: tokens, at: at}
	if err = p.read(levelOr); err != api.OK {
		return nil, p.at, err
	}
	e = p.stack[0]
	if err = Validate(e); err != api.OK {
		return nil, p.at, err
	}
	return e, p.at, api.OK
}

// parser reads an expression. Each of its methods that read puts what it reads
// on the stack and leaves at behind it; if it returns an error instead, at is
// the token at which the error is found. No method reads the end of the tokens,
// so that there is always a next token.
type parser struct {
	tokens []api.Token
	at     int
	// open is the number of open parentheses and prefix operators.
	open  int
	stack [][]api.Node
}

// word returns the next token if it is a name or a symbol.
func (p *parser) word() string {
	if t := p.tokens[p.at]; t.Kind == api.TokName || t.Kind == api.TokSymbol {
		return t.Text
	}
	return ""
}

// take reads a symbol.
func (p *parser) take(symbol string) api.Errno {
	if p.word() != symbol {
		return api.ErrSyntax
	}
	p.at++
	return api.OK
}

// apply takes the operands of a node from the stack and puts the expression
// that they form with it back.
func (p *parser) apply(n api.Node) {
	if Arity(n) == 0 {
		p.stack = append(p.stack, []api.Node{n})
		return
	}
	first := len(p.stack) - Arity(n)
	e := p.stack[first]
	for _, operand := range p.stack[first+1:] {
		e = append(e, operand...)
	}
	e = append(e, n)
	// Too many nodes are an error however many they are, but only behind the
	// whole expression: the others are dropped to copy no long lists.
	p.stack = append(p.stack[:first], e[:min(len(e), api.MaxNodes+1)])
}

// read reads an expression of a level or of a tighter one.
func (p *parser) read(level int) api.Errno {
	switch level {
	case levelNot:
		return p.not()
	case levelUnary:
		return p.unary()
	}
	return p.binary(level)
}

// binary reads operands with the binary operators of a level between them.
func (p *parser) binary(level int) api.Errno {
	if err := p.read(level + 1); err != api.OK {
		return err
	}
	for {
		o, ok := infixOfWord(p.word(), level)
		if !ok {
			return api.OK
		}
		p.at++
		if err := p.read(level + 1); err != api.OK {
			return err
		}
		if o.swapped {
			left, right := len(p.stack)-2, len(p.stack)-1
			p.stack[left], p.stack[right] = p.stack[right], p.stack[left]
		}
		p.apply(api.Node{Op: o.op})
		if level == levelCompare {
			return api.OK
		}
	}
}

// not reads an expression of the level not.
func (p *parser) not() api.Errno {
	if p.word() == "not" {
		return p.prefix(api.OpNot, levelNot)
	}
	return p.read(levelNot + 1)
}

// unary reads an expression of the level unary.
func (p *parser) unary() api.Errno {
	if p.word() != "-" {
		return p.primary()
	}
	next := p.tokens[p.at+1]
	if next.Kind != api.TokInt {
		return p.prefix(api.OpNegate, levelUnary)
	}
	p.at += 2
	p.apply(constant(api.Int, -next.Num))
	return api.OK
}

// prefix reads a prefix operator and its operand, which has the same level.
func (p *parser) prefix(op, level int) api.Errno {
	p.at++
	if err := p.nested(level); err != api.OK {
		return err
	}
	p.apply(api.Node{Op: op})
	return api.OK
}

// nested reads an expression behind a prefix operator or in parentheses.
func (p *parser) nested(level int) api.Errno {
	p.open++
	// A token that is not allowed here is an error of the syntax at any depth.
	if p.open > maxOpen && p.begins(level) {
		return api.ErrLimit
	}
	err := p.read(level)
	p.open--
	return err
}
