package expr_test

import (
	"slices"
	"strconv"
	"strings"
	"testing"

	"warehouse/api"
	"warehouse/expr"
)

// wantNodes reports an error unless Parse of s gives these nodes.
func wantNodes(t *testing.T, s string, e ...api.Node) {
	t.Helper()
	if got, at, err := expr.Parse(s); !slices.Equal(got, e) || at != 0 || err != api.OK {
		t.Errorf("Parse(%q) is %+v, %d, %d, not %+v", cut(s), few(got), at, err, few(e))
	}
}

// wantFault reports an error unless Parse of s returns err with the offset at.
func wantFault(t *testing.T, s string, at int, err api.Errno) {
	t.Helper()
	if e, gotAt, got := expr.Parse(s); len(e) > 0 || gotAt != at || got != err {
		t.Errorf("Parse(%q) is %+v, %d, %d, not %d, %d", cut(s), few(e), gotAt, got, at, err)
	}
}

// binary is a binary operator of the chapter: its word, a number that is
// greater for tighter ones, and its Op.
type binary struct {
	word      string
	level, op int
	swapped   bool
}

// binaries returns the binary operators.
func binaries() []binary {
	return []binary{
		{"or", 1, api.OpOr, false}, {"and", 2, api.OpAnd, false},
		{"=", 4, api.OpEqual, false}, {"!=", 4, api.OpNotEqual, false}, {"<", 4, api.OpLess, false}, {"<=", 4, api.OpLessEqual, false}, {">", 4, api.OpLess, true}, {">=", 4, api.OpLessEqual, true},
		{"++", 5, api.OpConcat, false}, {"+", 6, api.OpAdd, false}, {"-", 6, api.OpSubtract, false}, {"*", 7, api.OpMultiply, false}, {"/", 7, api.OpDivide, false}, {"%", 7, api.OpModulo, false},
	}
}

// of returns the expression of an operator with the operands in the order of
// the text.
func (b binary) of(left, right []api.Node) []api.Node {
	if b.swapped {
		left, right = right, left
	}
	return apply(op(b.op), left, right)
}

// P8.3: each binary operator, with and without blanks around it.
func TestParseBinary(t *testing.T) {
	a, b := list(column("a")), list(column("b"))
	for _, x := range binaries() {
		wantNodes(t, "a "+x.word+" b", x.of(a, b)...)
		wantNodes(t, "\n(a)"+x.word+"# c\n(b)", x.of(a, b)...)
		wantNodes(t, "(((a "+x.word+" b)))", x.of(a, b)...)
		wantNodes(t, "f(a, b) "+x.word+" -5", x.of(list(a[0], b[0], call("f", 2)), list(number(-5)))...)
		wantFault(t, "a "+x.word, len(x.word)+2, api.ErrSyntax)
		wantFault(t, "a "+x.word+" )", len(x.word)+3, api.ErrSyntax)
		wantFault(t, "(a "+x.word+")", len(x.word)+3, api.ErrSyntax)
		if x.word != "-" {
			wantFault(t, x.word+" a", 0, api.ErrSyntax)
			wantFault(t, "("+x.word+" a)", 1, api.ErrSyntax)
			wantFault(t, "a "+x.word+" "+x.word+" b", len(x.word)+3, api.ErrSyntax)
		}
	}
}

// P8.3: each binary operator beside each other one, with and without
// parentheses.
func TestParseTwoBinaries(t *testing.T) {
	a, b, c := list(column("a")), list(column("b")), list(column("c"))
	for _, x := range binaries() {
		for _, y := range binaries() {
			left, right := y.of(x.of(a, b), c), x.of(a, y.of(b, c))
			wantNodes(t, "(a "+x.word+" b) "+y.word+" c", left...)
			wantNodes(t, "a "+x.word+" (b "+y.word+" c)", right...)
			s := "a " + x.word + " b " + y.word + " c"
			switch {
			case x.level == 4 && y.level == 4:
				wantFault(t, s, len(x.word)+5, api.ErrSyntax)
			case x.level >= y.level:
				wantNodes(t, s, left...)
			default:
				wantNodes(t, s, right...)
			}
		}
	}
}

// P8.3: chains of operators of a level are grouped from the left.
func TestParseChains(t *testing.T) {
	for _, level := range []int{1, 2, 5, 6, 7} {
		s, e := "n0", list(column("n0"))
		for round := range 4 {
			for i, x := range binaries() {
				if x.level == level {
					name := "n" + strconv.Itoa(round*20+i)
					s += " " + x.word + " " + name
					e = x.of(e, list(column(name)))
				}
			}
		}
		wantNodes(t, s, e...)
	}
	wantNodes(t, "a - b - c", column("a"), column("b"), op(api.OpSubtract), column("c"), op(api.OpSubtract))
	wantNodes(t, "a / b * c", column("a"), column("b"), op(api.OpDivide), column("c"), op(api.OpMultiply))
	wantNodes(t, "a or b and c = d ++ e + f * -g", column("a"), column("b"), column("c"), column("d"), column("e"), column("f"), column("g"), op(api.OpNegate), op(api.OpMultiply), op(api.OpAdd), op(api.OpConcat), op(api.OpEqual), op(api.OpAnd), op(api.OpOr))
	wantNodes(t, "-a * b + c ++ d = e and f or g", column("a"), op(api.OpNegate), column("b"), op(api.OpMultiply), column("c"), op(api.OpAdd), column("d"), op(api.OpConcat), column("e"), op(api.OpEqual), column("f"), op(api.OpAnd), column("g"), op(api.OpOr))
}

// P8.3: the operands of > and >= change places, larger ones too.
func TestParseGreater(t *testing.T) {
	wantNodes(t, "a > b + 1", column("b"), number(1), op(api.OpAdd), column("a"), op(api.OpLess))
	wantNodes(t, "a + 1 >= b", column("b"), column("a"), number(1), op(api.OpAdd), op(api.OpLessEqual))
	wantNodes(t, "(a > b) > (c >= d)", column("d"), column("c"), op(api.OpLessEqual), column("b"), column("a"), op(api.OpLess), op(api.OpLess))
	wantNodes(t, "f(a > 1, b >= 2)", number(1), column("a"), op(api.OpLess), number(2), column("b"), op(api.OpLessEqual), call("f", 2))
	wantNodes(t, "x and a > b", column("x"), column("b"), column("a"), op(api.OpLess), op(api.OpAnd))
}

// P8.3: a comparison behind a comparison.
func TestParseComparisons(t *testing.T) {
	wantFault(t, "a = b = c", 6, api.ErrSyntax)
	wantFault(t, "a + 1 < b * 2 >= c", 14, api.ErrSyntax)
	wantFault(t, "not a = b != c", 10, api.ErrSyntax)
	wantFault(t, "(a = b < c)", 7, api.ErrSyntax)
	wantFault(t, "f(a = b < c)", 8, api.ErrSyntax)
	wantFault(t, "x or a = b < c", 11, api.ErrSyntax)
	wantNodes(t, "a = b and c < d", column("a"), column("b"), op(api.OpEqual), column("c"), column("d"), op(api.OpLess), op(api.OpAnd))
	wantNodes(t, "a = (b = c)", column("a"), column("b"), column("c"), op(api.OpEqual), op(api.OpEqual))
}

// P8.3: not beside each binary operator.
func TestParseNot(t *testing.T) {
	a, b, not := list(column("a")), list(column("b")), op(api.OpNot)
	for _, x := range binaries() {
		wantNodes(t, "(not a) "+x.word+" b", x.of(apply(not, a), b)...)
		wantNodes(t, "a "+x.word+" (not b)", x.of(a, apply(not, b))...)
		wantNodes(t, "not (a "+x.word+" b)", apply(not, x.of(a, b))...)
		if x.level > 2 {
			wantNodes(t, "not a "+x.word+" b", apply(not, x.of(a, b))...)
			wantNodes(t, "not not a "+x.word+" b", apply(not, apply(not, x.of(a, b)))...)
			wantFault(t, "a "+x.word+" not b", len(x.word)+3, api.ErrSyntax)
		} else {
			wantNodes(t, "not a "+x.word+" b", x.of(apply(not, a), b)...)
			wantNodes(t, "a "+x.word+" not b", x.of(a, apply(not, b))...)
			wantNodes(t, "not not a "+x.word+" not not b", x.of(apply(not, apply(not, a)), apply(not, apply(not, b)))...)
		}
	}
	wantNodes(t, "not -a", column("a"), op(api.OpNegate), not)
	wantFault(t, "-not a", 1, api.ErrSyntax)
	wantFault(t, "not", 3, api.ErrSyntax)
	wantFault(t, "not)", 3, api.ErrSyntax)
	wantFault(t, "a not b", 2, api.ErrSyntax)
	wantNodes(t, "not(a)", column("a"), not)
	wantFault(t, "not(a, b)", 5, api.ErrSyntax)
	wantFault(t, "not()", 4, api.ErrSyntax)
	wantNodes(t, "f(not a, not b)", column("a"), not, column("b"), not, call("f", 2))
}

// P8.3: minus signs in front of integers.
func TestParseNegativeIntegers(t *testing.T) {
	for s, n := range map[string]int{"5": 5, "-5": -5, "- 5": -5, "-\n# c\n5": -5, "0": 0, "-0": 0, "-1073741824": -api.MaxInt, "1073741824": api.MaxInt} {
		wantNodes(t, s, number(n))
		wantNodes(t, "("+s+")", number(n))
		wantNodes(t, "-("+s+")", number(n), op(api.OpNegate))
		wantNodes(t, "f("+s+")", number(n), call("f", 1))
		wantNodes(t, "not "+s, number(n), op(api.OpNot))
		for _, x := range binaries() {
			wantNodes(t, "a "+x.word+" "+s, x.of(list(column("a")), list(number(n)))...)
			wantNodes(t, s+" "+x.word+" a", x.of(list(number(n)), list(column("a")))...)
		}
	}
	wantNodes(t, "a-5", column("a"), number(5), op(api.OpSubtract))
	wantNodes(t, "-5-5", number(-5), number(5), op(api.OpSubtract))
	wantNodes(t, "a - -5", column("a"), number(-5), op(api.OpSubtract))
	wantNodes(t, "a - - -5", column("a"), number(-5), op(api.OpNegate), op(api.OpSubtract))
	wantFault(t, "-1073741825", 1, api.ErrRange)
}

// P8.3: minus signs in front of each other and of other operands.
func TestParseNegations(t *testing.T) {
	minus := op(api.OpNegate)
	wantNodes(t, "- -5", number(-5), minus)
	wantNodes(t, "--5", number(-5), minus)
	wantNodes(t, "---5", number(-5), minus, minus)
	wantNodes(t, "-(-5)", number(-5), minus)
	wantNodes(t, "--(5)", number(5), minus, minus)
	wantNodes(t, "-a", column("a"), minus)
	wantNodes(t, "--a", column("a"), minus, minus)
	wantNodes(t, "-'5'", text("5"), minus)
	wantNodes(t, "-@1970-01-01T00:05", moment(5), minus)
	wantNodes(t, "-null", null(), minus)
	wantNodes(t, "-true", boolean(1), minus)
	wantNodes(t, "-f(5)", number(5), call("f", 1), minus)
	wantNodes(t, "-f()", call("f", 0), minus)
	wantNodes(t, "-isnull(5)", number(5), op(api.OpIsNull), minus)
	wantNodes(t, "-a * -b", column("a"), minus, column("b"), minus, op(api.OpMultiply))
	wantNodes(t, "-(a * b)", column("a"), column("b"), op(api.OpMultiply), minus)
	wantFault(t, "-", 1, api.ErrSyntax)
	wantFault(t, "a - ", 4, api.ErrSyntax)
	wantFault(t, "-)", 1, api.ErrSyntax)
	wantFault(t, "-*a", 1, api.ErrSyntax)
	wantFault(t, "-by", 1, api.ErrSyntax)
	a, b := list(column("a")), list(column("b"))
	for _, x := range binaries() {
		wantNodes(t, "-a "+x.word+" b", x.of(apply(minus, a), b)...)
		wantNodes(t, "a "+x.word+" -b", x.of(a, apply(minus, b))...)
		wantNodes(t, "-(a "+x.word+" b)", apply(minus, x.of(a, b))...)
	}
}

// P8.3: literals, with the words among them in front of parentheses.
func TestParseLiterals(t *testing.T) {
	for s, n := range map[string]api.Node{
		"null": null(), "true": boolean(1), "false": boolean(0), "0": number(0), "42": number(42), "''": text(""), "'a'": text("a"), "'it''s'": text("it's"), "'null'": text("null"), "'a.b'": text("a.b"), "'('": text("("), "'" + widest + "'": text(widest),
		"@1970-01-01T00:00": moment(0), "@3065-02-28T23:59": moment(api.MaxTime),
	} {
		wantNodes(t, s, n)
		wantNodes(t, "(("+s+"))", n)
		wantNodes(t, "f("+s+","+s+")", n, n, call("f", 2))
		wantNodes(t, s+" or "+s+" or "+s, n, n, op(api.OpOr), n, op(api.OpOr))
		wantFault(t, s+"(a)", len(s), api.ErrSyntax)
		wantFault(t, s+" ()", len(s)+1, api.ErrSyntax)
		wantFault(t, s+" a", len(s)+1, api.ErrSyntax)
		wantFault(t, s+" 'a'", len(s)+1, api.ErrSyntax)
		wantFault(t, "f("+s+"(a))", len(s)+2, api.ErrSyntax)
	}
	// Text literals with the words and symbols of operators are operands.
	for _, s := range []string{"and", "or", "not", "=", "-", ")", ",", "(", "a"} {
		wantFault(t, "a '"+s+"' b", 2, api.ErrSyntax)
		wantNodes(t, "'"+s+"'", text(s))
		wantFault(t, "f(a '"+s+"' b)", 4, api.ErrSyntax)
		wantFault(t, "f '"+s+"'", 2, api.ErrSyntax)
	}
}

// P8.3: names of columns; reserved words and names with a dot are none.
func TestParseColumns(t *testing.T) {
	for _, s := range []string{"a", "z9_", "from", "where", "group", "if", "coalesce", "isnull", "length", "day", "is", "nul", "nulls", "days", longest} {
		wantNodes(t, s, column(s))
		wantNodes(t, "("+s+")", column(s))
		wantNodes(t, "-"+s, column(s), op(api.OpNegate))
		wantNodes(t, "f("+s+", "+s+")", column(s), column(s), call("f", 2))
		wantNodes(t, s+" + "+s, column(s), column(s), op(api.OpAdd))
		wantFault(t, s+" a", len(s)+1, api.ErrSyntax)
	}
	for _, s := range []string{"by", "self", "and", "or", "a.b", "core.a", "if.a", "a.by", "null.a", "not.a", "a.null", longest + "." + longest} {
		wantFault(t, s, 0, api.ErrSyntax)
		wantFault(t, "("+s+")", 1, api.ErrSyntax)
		wantFault(t, "-"+s, 1, api.ErrSyntax)
		wantFault(t, "not "+s, 4, api.ErrSyntax)
		wantFault(t, "a + "+s+" b", 4, api.ErrSyntax)
		wantFault(t, "f(a, "+s+")", 5, api.ErrSyntax)
		wantFault(t, "f("+s+" + 1)", 2, api.ErrSyntax)
	}
	for _, s := range []string{"by", "self", "and", "or"} {
		wantFault(t, s+"(a)", 0, api.ErrSyntax)
		wantFault(t, s+"()", 0, api.ErrSyntax)
		wantFault(t, "a + "+s+"(a)", 4, api.ErrSyntax)
	}
}

// P8.3: calls of macros, with no operands, with MaxParams and one more.
func TestParseCalls(t *testing.T) {
	for _, s := range []string{"f", "m.f", "from", "m.if", "if.day", "by.a", "m.null", "not.and", "days", longest + "." + longest} {
		wantNodes(t, s+"()", call(s, 0))
		wantNodes(t, s+" ( )", call(s, 0))
		wantNodes(t, s+"(a)", column("a"), call(s, 1))
		wantNodes(t, s+"("+s+"("+s+"()))", call(s, 0), call(s, 1), call(s, 1))
		wantNodes(t, s+"(a or b, c)", column("a"), column("b"), op(api.OpOr), column("c"), call(s, 2))
		wantNodes(t, "a + "+s+"() * 2", column("a"), call(s, 0), number(2), op(api.OpMultiply), op(api.OpAdd))
		for size := 1; size < api.MaxParams+5; size++ {
			text := s + "(" + strings.Repeat("1,", size-1) + "1)"
			if size > api.MaxParams {
				wantFault(t, text, len(text)-1, api.ErrSyntax)
				wantFault(t, text[:len(text)-1]+" 1)", len(text), api.ErrSyntax)
				wantFault(t, text[:len(text)-1], len(text)-1, api.ErrSyntax)
			} else {
				wantNodes(t, text, append(slices.Repeat(list(number(1)), size), call(s, size))...)
			}
		}
		n := len(s)
		wantFault(t, s+"(", n+1, api.ErrSyntax)
		wantFault(t, s+"(,a)", n+1, api.ErrSyntax)
		wantFault(t, s+"(a,)", n+3, api.ErrSyntax)
		wantFault(t, s+"(a", n+2, api.ErrSyntax)
		wantFault(t, s+"(a,", n+3, api.ErrSyntax)
		wantFault(t, s+"(a b)", n+3, api.ErrSyntax)
		wantFault(t, s+"(a;b)", n+2, api.ErrSyntax)
		wantFault(t, s+"()()", n+2, api.ErrSyntax)
		wantFault(t, s+"())", n+2, api.ErrSyntax)
		wantFault(t, s+"[a]", n, api.ErrSyntax)
	}
	// Only the parenthesis tells the number of operands.
	wantFault(t, "f(1,2,3,4,5,6,7,8,9,10,by)", 23, api.ErrSyntax)
	wantFault(t, "f(1,2,3,4,5,6,7,8,9,1+2", 23, api.ErrSyntax)
}

// P8.3: the built-in functions, with too few and too many operands.
func TestParseBuiltins(t *testing.T) {
	for s, n := range map[string]api.Node{"if": op(api.OpIf), "coalesce": op(api.OpCoalesce), "isnull": op(api.OpIsNull), "length": op(api.OpLength)} {
		for size := range api.MaxParams + 3 {
			text := s + "(" + strings.Repeat("a,", max(0, size-1)) + "a)"
			if size == 0 {
				text = s + "()"
			}
			if size == expr.Arity(n) {
				wantNodes(t, text, append(slices.Repeat(list(column("a")), size), n)...)
				wantNodes(t, s+" (\n"+text[len(s)+1:], append(slices.Repeat(list(column("a")), size), n)...)
			} else {
				wantFault(t, text, len(text)-1, api.ErrSyntax)
				wantFault(t, "1 + "+text+" ?", len(text)+5, api.ErrSyntax)
				wantFault(t, "1 + "+text+" b", len(text)+3, api.ErrSyntax)
			}
		}
		wantFault(t, s+"(,a)", len(s)+1, api.ErrSyntax)
		wantFault(t, s+"(a,)", len(s)+3, api.ErrSyntax)
		wantFault(t, s+"(a", len(s)+2, api.ErrSyntax)
		wantFault(t, s+"(a b)", len(s)+3, api.ErrSyntax)
	}
	wantNodes(t, "if(a > 1, -b, if(c, d, e))", number(1), column("a"), op(api.OpLess), column("b"), op(api.OpNegate), column("c"), column("d"), column("e"), op(api.OpIf), op(api.OpIf))
	wantNodes(t, "coalesce(a, b or c)", column("a"), column("b"), column("c"), op(api.OpOr), op(api.OpCoalesce))
	wantNodes(t, "isnull(length('a'))", text("a"), op(api.OpLength), op(api.OpIsNull))
}

// P8.3: calls of day, with second operands that are names and others.
func TestParseDay(t *testing.T) {
	for _, zone := range []string{"z", "core.z", "day", "if", "coalesce", "from", "by.a", "a.self", longest + "." + longest} {
		wantNodes(t, "day(a, "+zone+")", column("a"), day(zone))
		wantNodes(t, "day ( a + 1 ,"+zone+" )", column("a"), number(1), op(api.OpAdd), day(zone))
		wantNodes(t, "-day(not a, "+zone+") * 2", column("a"), op(api.OpNot), day(zone), op(api.OpNegate), number(2), op(api.OpMultiply))
		wantNodes(t, "f(day(a, "+zone+"), day(b, "+zone+"))", column("a"), day(zone), column("b"), day(zone), call("f", 2))
		n := len(zone)
		wantFault(t, "day(a, "+zone, n+7, api.ErrSyntax)
		wantFault(t, "day(a, "+zone+", "+zone+")", n+7, api.ErrSyntax)
		wantFault(t, "day(a, "+zone+" + 1)", n+8, api.ErrSyntax)
		wantFault(t, "day(a, "+zone+"(b))", n+7, api.ErrSyntax)
		wantFault(t, "day(a, ("+zone+"))", 7, api.ErrSyntax)
		wantFault(t, "day(a, '"+zone+"')", 7, api.ErrSyntax)
	}
	for _, s := range []string{"by", "self", "and", "or", "not", "null", "true", "false", "5", "-5", "'z'", "@1970-01-01T00:00", ")", ",", "(", "+", ";"} {
		wantFault(t, "day(a, "+s+")", 7, api.ErrSyntax)
		wantFault(t, "day(a, "+s+" z)", 7, api.ErrSyntax)
	}
	wantFault(t, "day(", 4, api.ErrSyntax)
	wantFault(t, "day()", 4, api.ErrSyntax)
	wantFault(t, "day(a)", 5, api.ErrSyntax)
	wantFault(t, "day(a", 5, api.ErrSyntax)
	wantFault(t, "day(a,", 6, api.ErrSyntax)
	wantFault(t, "day(a z)", 6, api.ErrSyntax)
	wantFault(t, "day(a; z)", 5, api.ErrSyntax)
	wantFault(t, "day(, z)", 4, api.ErrSyntax)
	wantFault(t, "day(core.a, z)", 4, api.ErrSyntax)
	wantFault(t, "day(a, z) z", 10, api.ErrSyntax)
}

// P8.3: parentheses and other tokens at the wrong places.
func TestParseFaults(t *testing.T) {
	for s, at := range map[string]int{
		"": 0, " ": 1, "# a": 3, "()": 1, "(": 1, ")": 0, "(a": 2, "a)": 1, "((a)": 4, "(a))": 3, "(a b)": 3, "(a, b)": 2, "a, b": 1, "a b": 2, "a 5": 2, "5 a": 2, "a ; b": 2, "a | b": 2, "a : b": 2, "; a": 0, ", a": 0, "| a": 0, ": a": 0,
		"a or": 4, "or a": 0, "a and or b": 6, "a + ()": 5, "a +": 3, "+ a": 0, "+5": 0, "a ++ + b": 5, "a + + b": 4, "a < > b": 4, "a == b": 3, "a <> b": 3, "a ! = b": 2, "(a) b": 4, "(a)(b)": 3, "a(b": 3, "a from b": 2, "a by b": 2, "a is null": 2,
	} {
		wantFault(t, s, at, api.ErrSyntax)
	}
}

// P8.3: the chapter's examples.
func TestParseExamples(t *testing.T) {
	wantNodes(t, "a > b + 1", column("b"), number(1), op(api.OpAdd), column("a"), op(api.OpLess))
	wantNodes(t, "-5", number(-5))
	wantNodes(t, "-(5)", number(5), op(api.OpNegate))
	wantNodes(t, "- -5", number(-5), op(api.OpNegate))
	wantFault(t, "a = b = c", 6, api.ErrSyntax)
	wantNodes(t, "not a and b", column("a"), op(api.OpNot), column("b"), op(api.OpAnd))
}
