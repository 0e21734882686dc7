package expr

import (
	"warehouse/api"
	"warehouse/token"
)

// constant returns a constant without a Str.
func constant(kind, num int) api.Node {
	return api.Node{Op: api.OpConst, Value: api.Value{Kind: kind, Num: num}}
}

// wordConstant returns the constant that a word stands for.
func wordConstant(word string) (n api.Node, ok bool) {
	switch word {
	case "null":
		return constant(api.Null, 0), true
	case "true":
		return constant(api.Bool, 1), true
	case "false":
		return constant(api.Bool, 0), true
	}
	return api.Node{}, false
}

// begins reports whether an expression of a level can begin with the next
// token.
func (p *parser) begins(level int) bool {
	switch t := p.tokens[p.at]; t.Kind {
	case api.TokInt, api.TokText, api.TokTime:
		return true
	case api.TokSymbol:
		return t.Text == "(" || t.Text == "-" && level <= levelUnary
	case api.TokName:
		return t.Text == "not" && level <= levelNot || p.beginsPrimary()
	}
	return false
}

// beginsPrimary reports whether the next token, which is a name, is a literal,
// a column or the name of a call.
func (p *parser) beginsPrimary() bool {
	name := p.word()
	if _, found := wordConstant(name); found {
		return true
	}
	return isColumn(name) || p.isCall() && !token.Reserved(name)
}

// isCall reports whether the next token, which is a name, is followed by an
// opening parenthesis.
func (p *parser) isCall() bool {
	next := p.tokens[p.at+1]
	return next.Kind == api.TokSymbol && next.Text == "("
}

// primary reads an expression of the level primary.
func (p *parser) primary() api.Errno {
	if !p.begins(levelPrimary) {
		return api.ErrSyntax
	}
	t := p.tokens[p.at]
	switch t.Kind {
	case api.TokName:
		return p.name()
	case api.TokSymbol:
		return p.group()
	case api.TokInt:
		p.apply(constant(api.Int, t.Num))
	case api.TokText:
		p.apply(api.Node{Op: api.OpConst, Value: api.Value{Kind: api.Text, Str: t.Text}})
	case api.TokTime:
		p.apply(constant(api.Time, t.Num))
	}
	p.at++
	return api.OK
}

// group reads an expression with parentheses around it.
func (p *parser) group() api.Errno {
	p.at++
	if err := p.nested(levelOr); err != api.OK {
		return err
	}
	return p.take(")")
}

// name reads a primary that begins with a name.
func (p *parser) name() api.Errno {
	name := p.word()
	n, found := wordConstant(name)
	switch {
	case found:
		p.apply(n)
	case p.isCall():
		return p.call()
	default:
		p.apply(api.Node{Op: api.OpColumn, Name: name})
	}
	p.at++
	return api.OK
}

// call reads a call of a function.
func (p *parser) call() api.Errno {
	name := p.word()
	op, found := builtinOp(name)
	p.at += 2
	if found && op == api.OpDay {
		return p.day()
	}
	size, err := p.operands()
	if err != api.OK {
		return err
	}
	n := api.Node{Op: api.OpCall, Name: name, Arity: size}
	if found {
		n = api.Node{Op: op}
	}
	if size != Arity(n) || size > api.MaxParams {
		return api.ErrSyntax
	}
	p.apply(n)
	return p.take(")")
}

// operands reads the operands of a call as far as its closing parenthesis, and
// returns their number.
func (p *parser) operands() (size int, err api.Errno) {
	if p.word() == ")" {
		return 0, api.OK
	}
	for {
		if err := p.nested(levelOr); err != api.OK {
			return 0, err
		}
		size++
		switch p.word() {
		case ")":
			return size, api.OK
		case ",":
			p.at++
		default:
			return 0, api.ErrSyntax
		}
	}
}

// day reads what is behind the opening parenthesis of a call of day.
func (p *parser) day() api.Errno {
	if err := p.nested(levelOr); err != api.OK {
		return err
	}
	if err := p.take(","); err != api.OK {
		return err
	}
	zone := p.tokens[p.at]
	if zone.Kind != api.TokName || token.Reserved(zone.Text) {
		return api.ErrSyntax
	}
	p.at++
	p.apply(api.Node{Op: api.OpDay, Name: zone.Text})
	return p.take(")")
}
