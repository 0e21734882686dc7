package token_test

import (
	"math"
	"slices"
	"strings"
	"testing"

	"warehouse/api"
	"warehouse/token"
)

// longest is a name of the greatest length that a name without a module may
// have, and widest a text of the greatest length.
var longest, widest = strings.Repeat("n", api.MaxName), strings.Repeat("x", api.MaxText)

// name returns a name that begins at the offset at.
func name(s string, at int) api.Token { return api.Token{Kind: api.TokName, Text: s, At: at} }

// number returns an integer that begins at the offset at.
func number(n, at int) api.Token { return api.Token{Kind: api.TokInt, Num: n, At: at} }

// text returns a text literal that begins at the offset at.
func text(s string, at int) api.Token { return api.Token{Kind: api.TokText, Text: s, At: at} }

// moment returns a time that begins at the offset at.
func moment(n, at int) api.Token { return api.Token{Kind: api.TokTime, Num: n, At: at} }

// symbol returns a symbol that begins at the offset at.
func symbol(s string, at int) api.Token { return api.Token{Kind: api.TokSymbol, Text: s, At: at} }

// end returns the end of a text of the given length.
func end(at int) api.Token { return api.Token{Kind: api.TokEnd, At: at} }

// list returns a list of tokens.
func list(tokens ...api.Token) []api.Token { return tokens }

// symbols returns the symbols of the chapter.
func symbols() []string {
	return strings.Fields("( ) , ; : | = + ++ - * / % < <= > >= !=")
}

// bytes256 returns the texts of one byte each, in order.
func bytes256() []string {
	var l []string
	for b := range 256 {
		l = append(l, string([]byte{byte(b)}))
	}
	return l
}

// cut returns the beginning of a text, for messages.
func cut(s string) string { return s[:min(len(s), 60)] }

// few returns the first tokens of a list, for messages.
func few(tokens []api.Token) []api.Token { return tokens[:min(len(tokens), 12)] }

// wantValid reports an error unless Validate of tokens returns OK.
func wantValid(t *testing.T, tokens []api.Token) {
	t.Helper()
	if err := token.Validate(tokens); err != api.OK {
		t.Errorf("Validate(%+v) is %d", few(tokens), err)
	}
}

// wantInvalid reports an error unless Validate and Join of tokens return
// ErrShape.
func wantInvalid(t *testing.T, tokens []api.Token) {
	t.Helper()
	if err := token.Validate(tokens); err != api.ErrShape {
		t.Errorf("Validate(%+v) is %d", few(tokens), err)
	}
	if s, err := token.Join(tokens); s != "" || err != api.ErrShape {
		t.Errorf("Join(%+v) is %q, %d", few(tokens), cut(s), err)
	}
}

// wantTokens reports an error unless Validate of each token and the end has
// the result that valid says.
func wantTokens(t *testing.T, valid bool, tokens ...api.Token) {
	t.Helper()
	for _, x := range tokens {
		if valid {
			wantValid(t, list(x, end(0)))
			wantValid(t, list(name("a", 0), x, symbol("+", 0), x, end(0)))
		} else {
			wantInvalid(t, list(x, end(0)))
			wantInvalid(t, list(name("a", 0), x, symbol("+", 0), end(0)))
			wantInvalid(t, list(x, name("a", 0), end(0)))
		}
	}
}

// P7.1
func TestReserved(t *testing.T) {
	words := strings.Fields("and or not null true false by self")
	for _, s := range words {
		if !token.Reserved(s) {
			t.Errorf("Reserved(%q) is false", s)
		}
		// None of these words is another one with a letter more or less.
		others := []string{s[1:], s[:len(s)-1], strings.ToUpper(s), strings.ToUpper(s[:1]) + s[1:], s + s, " " + s, s + " ", s + "\x00", "a." + s, s + ".a", "'" + s + "'"}
		for c := 'a'; c <= 'z'; c++ {
			others = append(others, s+string(c), string(c)+s)
		}
		for _, other := range others {
			if token.Reserved(other) {
				t.Errorf("Reserved(%q) is true", other)
			}
		}
	}
	for _, s := range append(symbols(), "", "a", "x", "from", "where", "derive", "select", "join", "on", "group", "is", "if", "day", "length", "coalesce", "module", "use", "in", "xor", "nil", "none", "unknown", "this", "1", "0", "and or", longest) {
		if token.Reserved(s) {
			t.Errorf("Reserved(%q) is true", s)
		}
	}
}

// P7.1: every word of up to three letters.
func TestReservedShortWords(t *testing.T) {
	var found []string
	words := []string{""}
	for range 3 {
		var longer []string
		for _, s := range words {
			for c := 'a'; c <= 'z'; c++ {
				longer = append(longer, s+string(c))
			}
		}
		for _, s := range longer {
			if token.Reserved(s) {
				found = append(found, s)
			}
		}
		words = longer
	}
	if !slices.Equal(found, []string{"by", "or", "and", "not"}) {
		t.Errorf("%q", found)
	}
}

// P7.2: lists of several tokens.
func TestValidate(t *testing.T) {
	wantValid(t, list(end(0)))
	wantValid(t, list(name("a", 0), symbol(">=", 1), number(1, 3), end(4)))
	wantValid(t, list(name("core.a", 0), text("it's", 0), moment(1441, 0), symbol("(", 0), symbol("(", 0), name("and", 0), end(0)))
	many := slices.Repeat(list(text(widest, 0), name(longest, 0)), api.MaxSource)
	wantValid(t, append(many, end(0)))
	if err := token.Validate(many); err != api.ErrShape {
		t.Errorf("no end: %d", err)
	}
}

// P7.2: the last token is the end, and no other one.
func TestValidateEnd(t *testing.T) {
	a := name("a", 0)
	for _, l := range [][]api.Token{
		nil, {}, {a}, {a, a}, {end(0), a}, {a, end(0), a}, {end(0), end(0)}, {a, end(1), end(1)}, {end(0), a, end(1)}, {end(0), end(0), end(0)},
		{number(1, 0)}, {text("", 0)}, {moment(0, 0)}, {symbol("+", 0)},
		{{Kind: api.TokEnd, Text: "a"}}, {{Kind: api.TokEnd, Num: 1}}, {{Kind: api.TokEnd, Num: -1}}, {a, {Kind: api.TokEnd, Text: " ", At: 1}}, {a, {Kind: api.TokEnd, Num: 1, At: 1}},
	} {
		wantInvalid(t, l)
	}
}

// P7.2: the numbers At may be any.
func TestValidateAt(t *testing.T) {
	for _, at := range []int{math.MinInt, math.MinInt32, -1, 0, 1, api.MaxSource, api.MaxSource + 1, math.MaxInt32, math.MaxInt} {
		wantValid(t, list(end(at)))
		wantTokens(t, true, name("a", at), number(1, at), text("a", at), moment(1, at), symbol("+", at))
		wantValid(t, list(name("a", at), name("a", -at), name("a", 0), end(at)))
	}
}

// P7.2: fields that a kind does not use are zero.
func TestValidateOtherFields(t *testing.T) {
	for _, n := range []int{math.MinInt, -1, 1, 1 << 32, math.MaxInt} {
		wantTokens(t, false,
			api.Token{Kind: api.TokName, Text: "a", Num: n}, api.Token{Kind: api.TokText, Text: "a", Num: n}, api.Token{Kind: api.TokText, Num: n}, api.Token{Kind: api.TokSymbol, Text: "+", Num: n})
		wantInvalid(t, list(api.Token{Kind: api.TokEnd, Num: n}))
	}
	for _, s := range []string{"a", "1", "0", "+", " ", "\x00", "1970-01-01T00:01"} {
		wantTokens(t, false, api.Token{Kind: api.TokInt, Text: s, Num: 1}, api.Token{Kind: api.TokInt, Text: s}, api.Token{Kind: api.TokTime, Text: s, Num: 1}, api.Token{Kind: api.TokTime, Text: s})
		wantInvalid(t, list(api.Token{Kind: api.TokEnd, Text: s}))
	}
}

// P7.2: there are no other kinds.
func TestValidateKinds(t *testing.T) {
	for _, kind := range []int{math.MinInt, math.MinInt32, -2, -1, 6, 7, 256, 257, 1 << 32, 1<<32 + 1, math.MaxInt} {
		wantTokens(t, false, api.Token{Kind: kind}, api.Token{Kind: kind, Text: "a"}, api.Token{Kind: kind, Text: "+"}, api.Token{Kind: kind, Num: 1})
		wantInvalid(t, list(api.Token{Kind: kind}))
	}
}

// P7.2: names are qualified names, reserved words among them.
func TestValidateNames(t *testing.T) {
	for _, s := range []string{"a", "z", "a1", "a_", "core.a", "a.b", "and", "self", "null.by", longest, longest + "." + longest, "a." + longest, longest + ".a"} {
		wantTokens(t, true, name(s, 0))
	}
	for _, s := range []string{
		"", ".", "a.", ".a", "a..b", "a.b.c", "1", "1a", "_a", "A", "aB", "a.B", "a.1", "a._", "a b", "a ", " a", "a-b", "a\n", "é", "a\xff", "'a'", "+",
		longest + "n", longest + "n.a", "a." + longest + "n", longest + "." + longest + "n", longest + "." + longest + ".a", strings.Repeat("n", 1<<16),
	} {
		wantTokens(t, false, name(s, 0))
	}
}

// P7.2: integers and times, at both ends of their ranges and beyond.
func TestValidateNumbers(t *testing.T) {
	for _, n := range []int{0, 1, 9, 10, 1440, 1 << 16, api.MaxTime - 1, api.MaxTime} {
		wantTokens(t, true, number(n, 0), moment(n, 0))
	}
	for _, n := range []int{api.MaxTime + 1, api.MaxTime + 2, api.MaxInt - 1, api.MaxInt} {
		wantTokens(t, true, number(n, 0))
		wantTokens(t, false, moment(n, 0))
	}
	for _, n := range []int{math.MinInt, -1 << 32, -api.MaxInt, -api.MaxTime, -2, -1, api.MaxInt + 1, api.MaxInt + 2, 1 << 31, 1 << 32, 1<<32 + 1, 1 << 62, math.MaxInt} {
		wantTokens(t, false, number(n, 0), moment(n, 0))
	}
}

// P7.2: texts have any bytes, and at most MaxText of them.
func TestValidateTexts(t *testing.T) {
	for _, s := range append(bytes256(), "", "it's", "''", "a\n#b", "\x00\x00", strings.Repeat("'", api.MaxText), strings.Repeat("\xff", api.MaxText), strings.Repeat("é", api.MaxText/2), widest, widest[1:]) {
		wantTokens(t, true, text(s, 0))
	}
	for _, s := range []string{widest + "x", widest + widest, strings.Repeat("é", api.MaxText/2) + "e", strings.Repeat("'", api.MaxText+1), strings.Repeat("x", 256), strings.Repeat("x", 1<<16)} {
		wantTokens(t, false, text(s, 0))
	}
}

// P7.2: symbols are those of the chapter; every text of up to two bytes.
func TestValidateSymbols(t *testing.T) {
	for _, s := range symbols() {
		wantTokens(t, true, symbol(s, 0))
	}
	for _, s := range []string{"", "+++", "<=>", "!==", "...", "<= ", " <=", "||", "and", "==", "<>", "=>", "=<", "\x00"} {
		wantTokens(t, false, symbol(s, 0))
	}
	for _, a := range bytes256() {
		for _, b := range append(bytes256(), "") {
			want := api.ErrShape
			if slices.Contains(symbols(), a+b) {
				want = api.OK
			}
			if err := token.Validate(list(symbol(a+b, 0), end(0))); err != want {
				t.Errorf("%q: %d", a+b, err)
			}
		}
	}
}
