package expr_test

import (
	"math/rand"
	"slices"
	"strings"
	"testing"

	"warehouse/api"
	"warehouse/expr"
	"warehouse/token"
)

// item is an operator or an opening parenthesis that the reference has read.
type item struct {
	// kind is (, f (a call), - or not (prefix operators), or a binary operator.
	kind string
	name string
	size int
}

// machine is ParseAt without recursion: a stack of operators and one of
// operands, for valid tokens.
type machine struct {
	tokens []api.Token
	at     int
	items  []item
	out    [][]api.Node
}

// levelOf returns how tightly an operator binds, or 0 for other texts.
func levelOf(word string) int {
	for i, words := range []string{"or", "and", "not", "= != < <= > >=", "++", "+ -", "* / %", "unary"} {
		if slices.Contains(strings.Fields(words), word) {
			return i + 1
		}
	}
	return 0
}

// isPrefix reports whether an item is a prefix operator.
func (x item) isPrefix() bool { return x.kind == "not" || x.kind == "unary" }

// isOpen reports whether an item is an opening parenthesis.
func (x item) isOpen() bool { return x.kind == "(" || x.kind == "f" }

// plain returns the text of a name or symbol, and its kind for other tokens.
func (m *machine) plain(at int) string {
	switch t := m.tokens[at]; t.Kind {
	case api.TokName, api.TokSymbol:
		return t.Text
	case api.TokEnd:
		return "END"
	case api.TokInt:
		return "INT"
	}
	return "LITERAL"
}

// top returns the innermost item.
func (m *machine) top() item {
	if len(m.items) == 0 {
		return item{}
	}
	return m.items[len(m.items)-1]
}

// form puts a node behind its operands.
func (m *machine) form(n api.Node, size int) {
	k := len(m.out) - size
	e := append(slices.Concat(m.out[k:]...), n)
	m.out = append(m.out[:k], e)
}

// reduce forms the nodes of the operators that bind at least as tightly as
// level.
func (m *machine) reduce(level int) {
	ops := map[string]int{"or": api.OpOr, "and": api.OpAnd, "=": api.OpEqual, "!=": api.OpNotEqual, "<": api.OpLess, "<=": api.OpLessEqual, ">": api.OpLess, ">=": api.OpLessEqual, "++": api.OpConcat, "+": api.OpAdd, "-": api.OpSubtract, "*": api.OpMultiply, "/": api.OpDivide, "%": api.OpModulo, "not": api.OpNot, "unary": api.OpNegate}
	for x := m.top(); levelOf(x.kind) >= level && x.kind != ""; x = m.top() {
		if x.isOpen() {
			return
		}
		m.items = m.items[:len(m.items)-1]
		if x.isPrefix() {
			m.form(op(ops[x.kind]), 1)
			continue
		}
		if k := len(m.out); x.kind[0] == '>' {
			m.out[k-2], m.out[k-1] = m.out[k-1], m.out[k-2]
		}
		m.form(op(ops[x.kind]), 2)
	}
}

// operand reads up to the end of an operand's first part. It reports whether an
// operand is complete.
func (m *machine) operand() (complete bool, err api.Errno) {
	word := m.plain(m.at)
	depth := 0
	for _, x := range m.items {
		if x.isPrefix() || x.isOpen() {
			depth++
		}
	}
	reserved := strings.Contains(" and or not null true false by self ", " "+word+" ")
	isName := m.tokens[m.at].Kind == api.TokName && !reserved
	isCall := isName && m.plain(m.at+1) == "("
	allowed := isCall || isName && !strings.Contains(word, ".") || slices.Contains([]string{"INT", "LITERAL", "null", "true", "false", "(", "-"}, word)
	if word == "not" {
		kind := m.top().kind
		allowed = slices.Contains([]string{"", "(", "f", "not", "and", "or"}, kind)
	}
	switch {
	case !allowed:
		return false, api.ErrSyntax
	case depth > 4*api.MaxDepth:
		return false, api.ErrLimit
	case word == "(":
		m.items = append(m.items, item{kind: "("})
	case word == "not":
		m.items = append(m.items, item{kind: "not"})
	case isCall:
		m.at++
		m.items = append(m.items, item{kind: "f", name: word})
		if m.plain(m.at+1) == ")" && word != "day" {
			m.at++
			return true, m.closeCall(0)
		}
	case word == "-" && m.plain(m.at+1) == "INT":
		m.at++
		m.form(number(-m.tokens[m.at].Num), 0)
		complete = true
	case word == "-":
		m.items = append(m.items, item{kind: "unary"})
	default:
		m.form(m.leaf(word), 0)
		complete = true
	}
	m.at++
	return complete, api.OK
}

// leaf returns the node of a literal or a column.
func (m *machine) leaf(word string) api.Node {
	t := m.tokens[m.at]
	switch word {
	case "INT":
		return number(t.Num)
	case "LITERAL":
		if t.Kind == api.TokText {
			return text(t.Text)
		}
		return moment(t.Num)
	case "null":
		return null()
	case "true":
		return boolean(1)
	case "false":
		return boolean(0)
	}
	return column(word)
}

// closeCall forms the node of a call with size operands at its closing
// parenthesis.
func (m *machine) closeCall(size int) api.Errno {
	name := m.top().name
	sizes := map[string]int{"if": 3, "coalesce": 2, "isnull": 1, "length": 1}
	ops := map[string]int{"if": api.OpIf, "coalesce": api.OpCoalesce, "isnull": api.OpIsNull, "length": api.OpLength}
	want, ok := sizes[name]
	if ok && size != want || size > api.MaxParams {
		return api.ErrSyntax
	}
	if ok {
		m.form(op(ops[name]), size)
	} else {
		m.form(call(name, size), size)
	}
	m.items = m.items[:len(m.items)-1]
	m.at++
	return api.OK
}

// closeDay reads the zone of a call of day and its closing parenthesis.
func (m *machine) closeDay() api.Errno {
	if m.plain(m.at) != "," {
		return api.ErrSyntax
	}
	m.at++
	zone := m.tokens[m.at]
	if zone.Kind != api.TokName || token.Reserved(zone.Text) {
		return api.ErrSyntax
	}
	m.at++
	if m.plain(m.at) != ")" {
		return api.ErrSyntax
	}
	m.form(day(zone.Text), 1)
	m.items = m.items[:len(m.items)-1]
	m.at++
	return api.OK
}

// operator reads what is behind an operand. It reports whether an operand
// follows, and whether the expression is complete.
func (m *machine) operator() (more, done bool, err api.Errno) {
	word := m.plain(m.at)
	if level := levelOf(word); level > 0 && word != "not" && word != "unary" {
		m.reduce(level + 1)
		if level != 4 || levelOf(m.top().kind) != 4 {
			m.reduce(level)
			m.items = append(m.items, item{kind: word})
			m.at++
			return true, false, api.OK
		}
	}
	m.reduce(1)
	switch x := m.top(); {
	case x.kind == "":
		return false, true, api.OK
	case x.name == "day":
		return false, false, m.closeDay()
	case x.kind == "f" && word == ",":
		m.items[len(m.items)-1].size++
		m.at++
		return true, false, api.OK
	case x.kind == "f" && word == ")":
		return false, false, m.closeCall(x.size + 1)
	case x.kind == "(" && word == ")":
		m.items = m.items[:len(m.items)-1]
		m.at++
		return false, false, api.OK
	}
	return false, false, api.ErrSyntax
}

// reference is ParseAt for valid tokens and a number of one of them.
func reference(tokens []api.Token, at int) (e []api.Node, next int, err api.Errno) {
	m := machine{tokens: tokens, at: at}
	for more := true; ; {
		done := false
		if more {
			complete := false
			complete, err = m.operand()
			more = !complete
		} else {
			more, done, err = m.operator()
		}
		if err != api.OK {
			return nil, m.at, err
		}
		if done {
			break
		}
	}
	if err := expr.Validate(m.out[0]); err != api.OK {
		return nil, m.at, err
	}
	return m.out[0], m.at, api.OK
}

// wantReference ends the test unless ParseAt gives what reference gives, at
// number at of the tokens.
func wantReference(t *testing.T, tokens []api.Token, at int) {
	t.Helper()
	e, next, err := expr.ParseAt(tokens, at)
	want, wantNext, wantErr := reference(tokens, at)
	if !slices.Equal(e, want) || next != wantNext || err != wantErr {
		s, _ := token.Join(tokens)
		t.Fatalf("ParseAt(%q, %d) is %+v, %d, %d, not %+v, %d, %d", cut(s), at, few(e), next, err, few(want), wantNext, wantErr)
	}
	wantParse(t, tokens, at)
}

// wantParse ends the test unless Parse of the text of the tokens from number at
// on gives what ParseAt of its tokens gives.
func wantParse(t *testing.T, tokens []api.Token, at int) {
	t.Helper()
	s, _ := token.Join(tokens[at:])
	again, _, _ := token.Split(s)
	want, next, wantErr := reference(again, 0)
	if wantErr == api.OK && next < len(again)-1 {
		want, wantErr = nil, api.ErrSyntax
	}
	wantAt := 0
	if wantErr != api.OK {
		wantAt = again[next].At
	}
	e, got, err := expr.Parse(s)
	if !slices.Equal(e, want) || got != wantAt || err != wantErr {
		t.Fatalf("Parse(%q) is %+v, %d, %d, not %+v, %d, %d", cut(s), few(e), got, err, few(want), wantAt, wantErr)
	}
}

// tokensOf returns the tokens of a text.
func tokensOf(s string) []api.Token {
	tokens, _, _ := token.Split(s)
	return tokens
}

// words are tokens of all kinds that matter to the syntax.
const words = "a 5 'x' @1970-01-02T00:01 null not and or = > <= ++ + - * ( ) , if isnull day f m.g by ;"

// P8.3 and P8.4: all texts of up to four tokens.
func TestParseAllShortTexts(t *testing.T) {
	l := tokensOf(words)
	l = l[:len(l)-1]
	end := api.Token{Kind: api.TokEnd}
	wantReference(t, []api.Token{end}, 0)
	for _, a := range l {
		wantReference(t, []api.Token{a, end}, 0)
		for _, b := range l {
			wantReference(t, []api.Token{a, b, end}, 0)
			for _, c := range l {
				wantReference(t, []api.Token{a, b, c, end}, 0)
				if a.Text == ";" || b.Text == ";" {
					continue
				}
				for _, d := range l {
					wantReference(t, []api.Token{a, b, c, d, end}, 0)
				}
			}
		}
	}
}

// P8.3 and P8.4: random texts, each from every token on.
func TestParseRandomTexts(t *testing.T) {
	r := rand.New(rand.NewSource(8))
	l := strings.Fields(words + " coalesce length true false != < >= / % self core.z ( ) ( ) , , and or - not")
	for range 20000 {
		var s []string
		for range r.Intn(16) {
			s = append(s, l[r.Intn(len(l))])
		}
		tokens := tokensOf(strings.Join(s, " "))
		for at := range tokens {
			wantReference(t, tokens, at)
		}
	}
}

// anyText returns the text of a random expression, with parentheses here and
// there, and sometimes with a token too many or another one.
func anyText(r *rand.Rand, depth int) string {
	if r.Intn(150) == 0 {
		l := strings.Fields(words)
		return l[r.Intn(len(l))]
	}
	sub := func() string { return anyText(r, depth-1) }
	if depth == 0 {
		return strings.Fields("a b 5 0 -7 'x' null true false @1970-01-02T00:01 f()")[r.Intn(11)]
	}
	switch r.Intn(12) {
	case 0:
		return "not " + sub()
	case 1:
		return "- " + sub()
	case 2:
		return "( " + sub() + " )"
	case 3:
		return "if ( " + sub() + " , " + sub() + " , " + sub() + " )"
	case 4:
		return strings.Fields("coalesce f m.g")[r.Intn(3)] + " ( " + sub() + " , " + sub() + " )"
	case 5:
		return strings.Fields("isnull length f")[r.Intn(3)] + " ( " + sub() + " )"
	case 6:
		return "day ( " + sub() + " , " + strings.Fields("z core.z if")[r.Intn(3)] + " )"
	}
	operators := strings.Fields("or and = != < <= > >= ++ + - * / %")
	return sub() + " " + operators[r.Intn(len(operators))] + " " + sub()
}

// P8.3 and P8.4: random expressions.
func TestParseRandomExpressions(t *testing.T) {
	r := rand.New(rand.NewSource(9))
	valid := 0
	for range 20000 {
		tokens := tokensOf(anyText(r, r.Intn(6)))
		wantReference(t, tokens, 0)
		if _, next, err := expr.ParseAt(tokens, 0); err == api.OK && next == len(tokens)-1 {
			valid++
		}
	}
	if valid < 4000 {
		t.Errorf("only %d expressions", valid)
	}
}
