package expr_test

import (
	"math"
	"slices"
	"strings"
	"testing"

	"warehouse/api"
	"warehouse/expr"
	"warehouse/token"
)

// wantAt reports an error unless ParseAt of the tokens at number at gives the
// expression of the text s up to the token next.
func wantAt(t *testing.T, tokens []api.Token, at int, s string, next int) {
	t.Helper()
	want, _, _ := expr.Parse(s)
	if e, n, err := expr.ParseAt(tokens, at); len(e) == 0 || !slices.Equal(e, want) || n != next || err != api.OK {
		t.Errorf("ParseAt number %d is %+v, %d, %d, not %q, %d", at, few(e), n, err, s, next)
	}
}

// wantFaultAt reports an error unless ParseAt of the tokens at number at
// returns err with the number next.
func wantFaultAt(t *testing.T, tokens []api.Token, at, next int, err api.Errno) {
	t.Helper()
	if e, n, got := expr.ParseAt(tokens, at); len(e) > 0 || n != next || got != err {
		t.Errorf("ParseAt number %d of %d is %+v, %d, %d, not %d, %d", at, len(tokens), few(e), n, got, next, err)
	}
}

// P8.4: every number of a token of a text, with other tokens behind each
// expression.
func TestParseAt(t *testing.T) {
	tokens := tokensOf("from a.b | where x > 1 and not y = f(z, 2) | derive n = -5 * k, d = day(at, core.z)")
	for at, want := range []struct {
		s    string
		next int
	}{
		{"from", 1}, {"", 1}, {"", 2}, {"where", 4}, {"x > 1 and not y = f(z, 2)", 17}, {"", 5}, {"1 and not y = f(z, 2)", 17}, {"", 7}, {"not y = f(z, 2)", 17}, {"y = f(z, 2)", 17}, {"", 10}, {"f(z, 2)", 17}, {"", 14}, {"z", 14}, {"", 14}, {"2", 16}, {"", 16}, {"", 17}, {"derive", 19}, {"n = -5 * k", 25}, {"", 20}, {"-5 * k", 25}, {"5 * k", 25}, {"", 23}, {"k", 25}, {"", 25}, {"d = day(at, core.z)", 34}, {"", 27}, {"day(at, core.z)", 34}, {"", 31}, {"at", 31}, {"", 31}, {"", 32}, {"", 33}, {"", 34},
	} {
		if want.s == "" {
			wantFaultAt(t, tokens, at, want.next, api.ErrSyntax)
		} else {
			wantAt(t, tokens, at, want.s, want.next)
		}
	}
}

// P8.4: numbers that are not the number of a token.
func TestParseAtRange(t *testing.T) {
	for _, s := range []string{"", "a", "a + b", "+"} {
		tokens := tokensOf(s)
		wantFaultAt(t, tokens, len(tokens)-1, len(tokens)-1, api.ErrSyntax)
		for _, at := range []int{len(tokens), len(tokens) + 1, 1 << 32, 1<<32 + 1, math.MaxInt, -1, -2, -len(tokens), -1 << 32, math.MinInt} {
			wantFaultAt(t, tokens, at, 0, api.ErrRange)
		}
	}
}

// P8.4: tokens that are not valid, before and behind the expression.
func TestParseAtInvalidTokens(t *testing.T) {
	end := api.Token{Kind: api.TokEnd}
	for _, bad := range []api.Token{end, {Kind: 9}, {Kind: -1}, {Kind: api.TokInt, Num: -5}, {Kind: api.TokInt, Num: api.MaxInt + 1}, {Kind: api.TokName}, {Kind: api.TokName, Text: "A"}, {Kind: api.TokSymbol, Text: "!"}, {Kind: api.TokText, Text: widest + "x"}, {Kind: api.TokTime, Num: -1}, {Kind: api.TokName, Text: "a", Num: 1}} {
		for place := range 4 {
			tokens := slices.Insert(tokensOf("a + b"), place, bad)
			for _, at := range []int{-1, 0, 1, 2, 3, 4, 5, math.MaxInt, math.MinInt} {
				wantFaultAt(t, tokens, at, 0, api.ErrShape)
			}
		}
	}
	for _, tokens := range [][]api.Token{nil, {}, tokensOf("a + b")[:3], append(tokensOf("a"), tokensOf("b")...)} {
		for _, at := range []int{-1, 0, 1, 5} {
			wantFaultAt(t, tokens, at, 0, api.ErrShape)
		}
	}
}

// P8.4: the offsets of tokens change nothing.
func TestParseAtOffsets(t *testing.T) {
	tokens := tokensOf("a > -5 ;")
	for _, at := range []int{math.MinInt, -1, 0, 7, math.MaxInt} {
		for i := range tokens {
			tokens[i].At = at
		}
		wantAt(t, tokens, 0, "-5 < a", 4)
		wantAt(t, tokens, 2, "-5", 4)
		wantFaultAt(t, tokens, 1, 1, api.ErrSyntax)
	}
}

// P8.4: an expression ends at the first token that cannot continue it, and an
// operator that has been read needs its operand.
func TestParseAtEnd(t *testing.T) {
	for _, s := range []string{"a", "a.b", "5", "'and'", "'+'", "@1970-01-01T00:00", ")", ",", ";", ":", "|", "(", "not", "null", "by", "self", "from", "from ("} {
		if s != "(" {
			wantAt(t, tokensOf("x "+s), 0, "x", 1)
			wantAt(t, tokensOf("not x "+s), 0, "not x", 2)
		}
		wantAt(t, tokensOf("x + 1 "+s), 0, "x + 1", 3)
		wantAt(t, tokensOf("y x + 1 "+s), 1, "x + 1", 4)
		wantAt(t, tokensOf("g(x) "+s), 0, "g(x)", 4)
		wantAt(t, tokensOf("(x) "+s), 0, "x", 3)
		wantAt(t, tokensOf("null "+s), 0, "null", 1)
	}
	for _, s := range []string{"=", "!=", "<", "<=", ">", ">="} {
		wantAt(t, tokensOf("x < y "+s+" z"), 0, "x < y", 3)
		wantAt(t, tokensOf("x < y "+s), 0, "x < y", 3)
		wantAt(t, tokensOf("x < y and z "+s+" 1"), 0, "x < y and (z "+s+" 1)", 7)
	}
	for _, x := range binaries() {
		for _, s := range []string{"", ";", ")", "by", "a.b", ",", "="} {
			wantFaultAt(t, tokensOf("x "+x.word+" "+s), 0, 2, api.ErrSyntax)
			wantFaultAt(t, tokensOf("5 x "+x.word+" "+s), 1, 3, api.ErrSyntax)
		}
	}
	wantFaultAt(t, tokensOf("(x ;"), 0, 2, api.ErrSyntax)
	wantFaultAt(t, tokensOf("f(x ;"), 0, 3, api.ErrSyntax)
	wantFaultAt(t, tokensOf("if(x, y) ;"), 0, 5, api.ErrSyntax)
	wantFaultAt(t, tokensOf("not ;"), 0, 1, api.ErrSyntax)
	wantFaultAt(t, tokensOf("x ; f("), 2, 4, api.ErrSyntax)
}

// openers are texts that open a parenthesis or are a prefix operator, with the
// end of what they open.
func openers() map[string]string {
	return map[string]string{"(": ")", "f(": ")", "m.g(": ")", "isnull(": ")", "day(": ", z)", "- ": ""}
}

// P8.4: operands that are enclosed by 4 times MaxDepth parentheses and prefix
// operators, and by one more.
func TestParseDeepOperands(t *testing.T) {
	const most = 4 * api.MaxDepth
	open := openers()
	open["not "] = ""
	for s, shut := range open {
		for _, leaf := range []string{"a", "6", "-5", "- 5", "'a'", "@1970-01-01T00:00", "null", "true", "g()", "m.g()"} {
			// A minus sign in front of an integer would be part of it.
			if s == "- " && leaf == "6" {
				leaf = "(6"
			}
			inner := strings.Repeat("(", most-1)
			if strings.HasPrefix(s, "not") {
				inner = strings.Repeat("not ", most-1)
			}
			deep := strings.Repeat(s, most)
			// One more is an error wherever the others are.
			wantFault(t, s+inner+s+leaf, len(s)+len(inner)+len(s), api.ErrLimit)
			wantFault(t, deep+s+leaf+strings.Repeat(shut, most+1), len(deep)+len(s), api.ErrLimit)
			wantFault(t, "1 = 1 and "+inner+s+s+leaf, 10+len(inner)+2*len(s), api.ErrLimit)
			if leaf == "(6" {
				continue
			}
			whole := deep + leaf + strings.Repeat(shut, most)
			if s == "(" {
				wantNodes(t, whole, parsed(leaf)...)
				continue
			}
			// The height of the others is an error behind the expression.
			wantFault(t, whole, len(whole), api.ErrLimit)
			wantFault(t, whole+" ;", len(whole)+1, api.ErrLimit)
		}
	}
}

// P8.4: the minus sign of a constant does not enclose it, but begins it.
func TestParseDeepConstants(t *testing.T) {
	const most = 4 * api.MaxDepth
	wantFault(t, strings.Repeat("-", most)+"-5", most+2, api.ErrLimit)
	wantFault(t, strings.Repeat("-", most)+"-5 ;", most+3, api.ErrLimit)
	wantFault(t, strings.Repeat("-", most)+"-a", most+1, api.ErrLimit)
	wantFault(t, strings.Repeat("-", most)+"--5", most+1, api.ErrLimit)
	wantFault(t, strings.Repeat("-", most)+"(5", most+1, api.ErrLimit)
	wantNodes(t, strings.Repeat("(", most)+"-5"+strings.Repeat(")", most), number(-5))
	wantNodes(t, strings.Repeat("(", most-1)+"--5"+strings.Repeat(")", most-1), number(-5), op(api.OpNegate))
	wantFault(t, strings.Repeat("(", most)+"--5", most+1, api.ErrLimit)
	wantFault(t, strings.Repeat("(", most+1)+"-5", most+1, api.ErrLimit)
}

// P8.4: each operand of a call is enclosed by its parenthesis, the first one
// too.
func TestParseDeepCalls(t *testing.T) {
	const most = 4 * api.MaxDepth
	for _, s := range []string{"f(1, ", "if(1, 2, ", "coalesce(1, "} {
		deep, first := strings.Repeat(s, most), strings.Index(s, "1")
		wantFault(t, deep+s, len(deep)+first, api.ErrLimit)
		wantFault(t, deep+"a"+strings.Repeat(")", most), len(deep)+1+most, api.ErrLimit)
		wantFault(t, deep+"a"+strings.Repeat(")", most-1), len(deep)+most, api.ErrSyntax)
	}
}

// parsed returns the nodes of a text.
func parsed(s string) []api.Node {
	e, _, _ := expr.Parse(s)
	return e
}

// P8.4: behind too many parentheses and prefix operators, an error of the
// syntax comes before the limit, and only an operand exceeds it.
func TestParseDeepFaults(t *testing.T) {
	for s := range openers() {
		deep := strings.Repeat(s, 4*api.MaxDepth+1)
		for _, bad := range []string{"", ",", ";", "+", "*a", "by", "self", "and", "a.b", "= a"} {
			wantFault(t, deep+bad, len(deep), api.ErrSyntax)
		}
		if s != "f(" && s != "m.g(" && s != "isnull(" {
			wantFault(t, deep+")", len(deep), api.ErrSyntax)
		}
		wantFault(t, deep+"- a", len(deep), api.ErrLimit)
		wantFault(t, deep+"- by", len(deep), api.ErrLimit)
		wantFault(t, deep+"(a", len(deep), api.ErrLimit)
		wantFault(t, deep+"f(a", len(deep), api.ErrLimit)
		wantFault(t, deep+"a ; )", len(deep), api.ErrLimit)
		wantFault(t, "'"+deep, 0, api.ErrSyntax)
		wantFault(t, deep+"a ?", len(deep)+2, api.ErrSyntax)
	}
	minus, not := strings.Repeat("- ", 4*api.MaxDepth+1), strings.Repeat("not ", 4*api.MaxDepth+1)
	wantFault(t, minus+"not a", len(minus), api.ErrSyntax)
	wantFault(t, not+"not a", len(not), api.ErrLimit)
	wantFault(t, not+"by", len(not), api.ErrSyntax)
	wantFault(t, not+"-", len(not), api.ErrLimit)
	wantFault(t, strings.Repeat("(", 4*api.MaxDepth+1)+"not a", 4*api.MaxDepth+1, api.ErrLimit)
	many := strings.Repeat("f(", 4*api.MaxDepth)
	wantFault(t, many+"f()"+strings.Repeat(")", 4*api.MaxDepth), 3*(4*api.MaxDepth+1), api.ErrLimit)
	wantFault(t, many+"isnull()", len(many)+7, api.ErrSyntax)
}

// P8.4: what has been closed, or belongs to an earlier operand, does not
// enclose an operand.
func TestParseClosedParentheses(t *testing.T) {
	const most = 4 * api.MaxDepth
	group := strings.Repeat("(", most) + "a" + strings.Repeat(")", most)
	wantNodes(t, group+" + "+group, column("a"), column("a"), op(api.OpAdd))
	wantNodes(t, "f("+group[1:len(group)-1]+", "+group[1:len(group)-1]+")", column("a"), column("a"), call("f", 2))
	wantFault(t, "f("+group+")", most+2, api.ErrLimit)
	wantFault(t, "f(1, "+group+")", most+5, api.ErrLimit)
	wantNodes(t, "-1 * "+group, number(-1), column("a"), op(api.OpMultiply))
	wantNodes(t, "-b * "+group, column("b"), op(api.OpNegate), column("a"), op(api.OpMultiply))
	wantFault(t, "-"+group, most+1, api.ErrLimit)
	wantNodes(t, "not b and "+group, column("b"), op(api.OpNot), column("a"), op(api.OpAnd))
	wantFault(t, "not b = "+group, most+8, api.ErrLimit)
	wantFault(t, "not b and not c < "+group, most+18, api.ErrLimit)
	wantFault(t, "day("+group+", z)", most+4, api.ErrLimit)
	wantNodes(t, "day(b, z) = "+group, column("b"), day("z"), column("a"), op(api.OpEqual))
	sum := "a" + strings.Repeat(" + (a)", 60) + strings.Repeat(" - -a", 3)
	if e, at, err := expr.Parse(sum); len(e) != 2*63+1+3 || at != 0 || err != api.OK {
		t.Errorf("%d nodes, %d, %d", len(e), at, err)
	}
}

// P8.4: expressions that do not satisfy Validate, at the token behind them.
func TestParseValidates(t *testing.T) {
	for size := 60; size <= 70; size++ {
		s := "a" + strings.Repeat(" + 1", size-1)
		for _, s := range []string{s, strings.Repeat("not ", size-1) + "a", strings.Repeat("-", size-1) + "a", strings.Repeat("1 + (", size-1) + "a" + strings.Repeat(")", size-1), strings.Repeat("isnull(", size-1) + "a" + strings.Repeat(")", size-1)} {
			if size > api.MaxDepth {
				wantFault(t, s, len(s), api.ErrLimit)
				wantFault(t, s+" b", len(s)+1, api.ErrLimit)
				wantFault(t, s+" + )", len(s)+3, api.ErrSyntax)
				wantFaultAt(t, tokensOf("; "+s+" ;"), 1, len(tokensOf(s)), api.ErrLimit)
			} else if e, at, err := expr.Parse(s); expr.Validate(e) != api.OK || at != 0 || err != api.OK {
				t.Errorf("Parse(%q) is %d, %d", cut(s), at, err)
			}
		}
	}
}

// wide returns the text of an expression of size nodes and a small height.
func wide(size int) string {
	switch {
	case size == 1:
		return "a"
	case size%2 == 0:
		return "not (" + wide(size-1) + ")"
	}
	left := (size - 1) / 4 * 2
	return "(" + wide(left+1) + ") and (" + wide(size-left-2) + ")"
}

// P8.4: MaxNodes nodes and more.
func TestParseNodes(t *testing.T) {
	for size := 1; size <= api.MaxNodes+40; size++ {
		s := wide(size)
		if size > api.MaxNodes {
			wantFault(t, s, len(s), api.ErrLimit)
			wantFault(t, s+" )", len(s)+1, api.ErrLimit)
			wantFault(t, s+" and", len(s)+4, api.ErrSyntax)
			wantFault(t, s+" = b", len(s)+4, api.ErrLimit)
		} else {
			wantNodes(t, s, flat(size)...)
		}
	}
	for _, s := range []string{strings.Repeat("1+", api.MaxSource/2-2) + "1", strings.Repeat("f(a,a,a)+", 7000) + "1", strings.Repeat("1+(", 250) + strings.Repeat("1+", 30000) + "1" + strings.Repeat(")", 250), "f(" + strings.Repeat("1+", 30000) + "1)", "1>" + strings.Repeat("1*", 30000) + "1"} {
		wantFault(t, s, len(s), api.ErrLimit)
		wantFault(t, s+" ;", len(s)+1, api.ErrLimit)
		wantFault(t, s+"+", len(s)+1, api.ErrSyntax)
	}
}

// P8.4: lists of tokens that are longer than the tokens of any text.
func TestParseAtLongLists(t *testing.T) {
	one, plus, end := tokensOf("1")[:1], tokensOf("+")[:1], tokensOf("")
	sum := slices.Concat(slices.Repeat(slices.Concat(one, plus), 1<<17), one, end)
	wantFaultAt(t, sum, 0, 1<<18+1, api.ErrLimit)
	wantAt(t, sum, 1<<18-2, "1 + 1", 1<<18+1)
	many := slices.Concat(slices.Repeat(tokensOf("(")[:1], 1<<18), end)
	wantFaultAt(t, many, 0, 4*api.MaxDepth+1, api.ErrLimit)
	wantFaultAt(t, many, 1<<18-10, 1<<18, api.ErrSyntax)
	operands := slices.Concat(tokensOf("f(1")[:3], slices.Repeat(tokensOf(", 1")[:2], 1<<17), tokensOf(")"))
	wantFaultAt(t, operands, 0, len(operands)-2, api.ErrSyntax)
}

// P8.5: the errors of Split come first, wherever they are.
func TestParseSplitErrors(t *testing.T) {
	for s, err := range map[string]api.Errno{"?": api.ErrSyntax, "$": api.ErrSyntax, "9a": api.ErrSyntax, "007": api.ErrSyntax, "'x": api.ErrSyntax, "@1970": api.ErrSyntax, "1073741825": api.ErrRange, "@1970-01-01T24:00": api.ErrRange, longest + "n": api.ErrName, "'" + widest + "x'": api.ErrLimit} {
		for _, front := range []string{"", "a + ", "a b ", ") ", "a = b = ", "f(1,2,3,4,5,6,7,8,9) + ", strings.Repeat("(", 300), strings.Repeat("not ", 100) + "a + "} {
			wantFault(t, front+s, len(front), err)
			wantFault(t, front+s+" + )", len(front), err)
		}
	}
}

// P8.5: texts of MaxSource bytes and of one more.
func TestParseLongTexts(t *testing.T) {
	blanks := strings.Repeat(" ", api.MaxSource)
	wantNodes(t, blanks[:api.MaxSource-1]+"a", column("a"))
	wantNodes(t, "a"+blanks[:api.MaxSource-1], column("a"))
	wantNodes(t, "a+1#"+blanks[:api.MaxSource-4], column("a"), number(1), op(api.OpAdd))
	wantFault(t, blanks[:api.MaxSource-1]+")", api.MaxSource-1, api.ErrSyntax)
	wantFault(t, blanks, api.MaxSource, api.ErrSyntax)
	wantFault(t, "a +"+blanks[:api.MaxSource-3], api.MaxSource, api.ErrSyntax)
	for _, s := range []string{"a", ")", "?", "a b", "a +"} {
		wantFault(t, blanks+s, 0, api.ErrLimit)
		wantFault(t, s+blanks, 0, api.ErrLimit)
	}
	wantFault(t, strings.Repeat("(", api.MaxSource), 4*api.MaxDepth+1, api.ErrLimit)
	wantFault(t, strings.Repeat("-", api.MaxSource), 4*api.MaxDepth+1, api.ErrLimit)
	wantFault(t, strings.Repeat("(", api.MaxSource+1), 0, api.ErrLimit)
}

// P8.5: tokens behind the expression, with offsets of the text.
func TestParseTrailing(t *testing.T) {
	for _, s := range []string{"b", "5", "'x'", "@1970-01-01T00:00", ")", ",", ";", "|", ":", "not", "by", "null", "a.b", "= d = e"} {
		front := "# c\n a = b # d\n "
		wantFault(t, front+s, len(front), api.ErrSyntax)
		wantFault(t, front+s+" +", len(front), api.ErrSyntax)
		wantFault(t, front+s+" ) )", len(front), api.ErrSyntax)
	}
	wantNodes(t, "# c\n a = b # d\n ", column("a"), column("b"), op(api.OpEqual))
}

// P8.5: at is the offset of the token, not its number.
func TestParseOffsets(t *testing.T) {
	s := "core.f ( 'it''s' , # comment\n\t@1970-01-02T00:01 , null ) ++ ( b"
	for _, bad := range []string{"", " b", " ,", " ;", "\n= = 1"} {
		at := len(s)
		switch bad {
		case "":
		case "\n= = 1":
			at += 3
		default:
			at++
		}
		wantFault(t, s+bad, at, api.ErrSyntax)
	}
	tokens, _, _ := token.Split(s)
	wantFaultAt(t, tokens, 0, len(tokens)-1, api.ErrSyntax)
	wantNodes(t, s+" )", text("it's"), moment(1441), null(), call("core.f", 3), column("b"), op(api.OpConcat))
}
