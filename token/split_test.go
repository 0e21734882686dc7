package token_test

import (
	"slices"
	"strings"
	"testing"

	"warehouse/api"
	"warehouse/civil"
	"warehouse/token"
)

// wantSplit reports an error unless Split of s gives the tokens, and unless
// they are valid.
func wantSplit(t *testing.T, s string, tokens ...api.Token) {
	t.Helper()
	got, at, err := token.Split(s)
	if !slices.Equal(got, tokens) || at != 0 || err != api.OK {
		t.Errorf("Split(%q) is %+v, %d, %d, not %+v", cut(s), few(got), at, err, few(tokens))
	}
	if err := token.Validate(tokens); err != api.OK {
		t.Errorf("Validate of the tokens of %q is %d", cut(s), err)
	}
}

// wantOne reports an error unless x is the only token of s, and unless it
// still begins a text in which something else follows.
func wantOne(t *testing.T, s string, x api.Token) {
	t.Helper()
	x.At = 0
	wantSplit(t, s, x, end(len(s)))
	wantSplit(t, s+" a", x, name("a", len(s)+1), end(len(s)+2))
	wantSplit(t, s+"#'", x, end(len(s)+2))
	wantSplit(t, s+";"+s, x, symbol(";", len(s)), api.Token{Kind: x.Kind, Text: x.Text, Num: x.Num, At: len(s) + 1}, end(2*len(s)+1))
	x.At = 3
	wantSplit(t, "\n\t "+s+"\n", x, end(len(s)+4))
}

// P7.3: the chapter's examples.
func TestSplitExamples(t *testing.T) {
	wantSplit(t, "a>=1", name("a", 0), symbol(">=", 1), number(1, 3), end(4))
	wantSplit(t, "it 'it''s' # comment", name("it", 0), text("it's", 3), end(20))
	wantFault(t, "007", 0, api.ErrSyntax)
	wantFault(t, "x 9a", 2, api.ErrSyntax)
}

// P7.3: texts of DOC.md's section 'The language'.
func TestSplitLanguage(t *testing.T) {
	wantSplit(t, "from orders | where amount > 0 | derive d = day(at, berlin)",
		name("from", 0), name("orders", 5), symbol("|", 12), name("where", 14), name("amount", 20), symbol(">", 27), number(0, 29), symbol("|", 31),
		name("derive", 33), name("d", 40), symbol("=", 42), name("day", 44), symbol("(", 47), name("at", 48), symbol(",", 50), name("berlin", 52), symbol(")", 58), end(59))
	wantSplit(t, "zone berlin 60, @2026-03-29T01:00 120;",
		name("zone", 0), name("berlin", 5), number(60, 12), symbol(",", 14), moment(20541*1440+60, 16), number(120, 34), symbol(";", 37), end(38))
	wantSplit(t, "macro net(a, b) = a - b;\n",
		name("macro", 0), name("net", 6), symbol("(", 9), name("a", 10), symbol(",", 11), name("b", 13), symbol(")", 14), symbol("=", 16), name("a", 18), symbol("-", 20), name("b", 22), symbol(";", 23), end(25))
}

// P7.3: blanks and comments at the beginning, between tokens and at the end.
func TestSplitSkips(t *testing.T) {
	for _, s := range []string{"", " ", "\t", "\n", " \t\n\n\t ", "#", "##", "#\n", "#\n#", "# only a comment", "# a\n# b\n", "\n#\n", " #'", "#\r\xff\x00@$'", "#\n \n#a\t"} {
		wantSplit(t, s, end(len(s)))
		wantSplit(t, s+"\nab", name("ab", len(s)+1), end(len(s)+3))
		wantSplit(t, "ab"+s, name("ab", 0), end(len(s)+2))
		wantSplit(t, "ab"+s+"\n1"+s, name("ab", 0), number(1, len(s)+3), end(2*len(s)+4))
		wantFault(t, s+"\n$", len(s)+1, api.ErrSyntax)
	}
	wantSplit(t, "#x\na#y\n\nb", name("a", 3), name("b", 8), end(9))
	wantSplit(t, "a#b c\nd", name("a", 0), name("d", 6), end(7))
	wantSplit(t, "a #'\n'#' #'", name("a", 0), text("#", 5), end(11))
	wantSplit(t, "1#2\n3", number(1, 0), number(3, 4), end(5))
	wantSplit(t, "a.b#.c\n", name("a.b", 0), end(7))
}

// P7.3: no blanks between tokens.
func TestSplitWithoutBlanks(t *testing.T) {
	wantSplit(t, "a'b'c", name("a", 0), text("b", 1), name("c", 4), end(5))
	wantSplit(t, "a'b'1'c''d'", name("a", 0), text("b", 1), number(1, 4), text("c'd", 5), end(11))
	wantSplit(t, "a@1970-01-01T00:01b", name("a", 0), moment(1, 1), name("b", 18), end(19))
	wantSplit(t, "1@1970-01-01T00:012", number(1, 0), moment(1, 1), number(2, 18), end(19))
	wantSplit(t, "@1970-01-02T00:01@1970-01-01T00:00", moment(1441, 0), moment(0, 17), end(34))
	wantSplit(t, "@1970-01-02T00:01'a'@1970-01-01T00:00", moment(1441, 0), text("a", 17), moment(0, 20), end(37))
	wantSplit(t, "1'a'2", number(1, 0), text("a", 1), number(2, 4), end(5))
	wantSplit(t, "1-2", number(1, 0), symbol("-", 1), number(2, 2), end(3))
	wantSplit(t, "(a),-1", symbol("(", 0), name("a", 1), symbol(")", 2), symbol(",", 3), symbol("-", 4), number(1, 5), end(6))
	wantSplit(t, "-a.b+c.d", symbol("-", 0), name("a.b", 1), symbol("+", 4), name("c.d", 5), end(8))
}

// P7.3: names with one and with two parts.
func TestSplitNames(t *testing.T) {
	for _, s := range []string{
		"a", "z", "ab", "a1", "a_", "a__1", "a0z9", "a.b", "a.z", "z.a", "core.a_1", "a1.b2", "a_.b_", "and", "null", "self.by", "abcdefghijklmnopqrstuvwx", "a0123456789_.z9876543210_",
		longest, longest[1:], longest + ".a", "a." + longest, longest + "." + longest,
	} {
		wantOne(t, s, name(s, 0))
		wantSplit(t, s+"'"+s+"'", name(s, 0), text(s, len(s)), end(2*len(s)+2))
		wantFault(t, s+"A", len(s), api.ErrSyntax)
		wantFault(t, s+".", len(s), api.ErrSyntax)
	}
	wantSplit(t, "a b.c d", name("a", 0), name("b.c", 2), name("d", 6), end(7))
	wantSplit(t, "a.b c.d", name("a.b", 0), name("c.d", 4), end(7))
}

// P7.3: the byte behind a name, and behind its dot, decides what it is.
func TestSplitBytesOfNames(t *testing.T) {
	for _, b := range bytes256() {
		letter := strings.Contains("abcdefghijklmnopqrstuvwxyz", b)
		if letter || strings.Contains("0123456789_", b) {
			wantSplit(t, "x"+b, name("x"+b, 0), end(2))
			wantSplit(t, "x.y"+b, name("x.y"+b, 0), end(4))
			wantSplit(t, "x"+b+"x", name("x"+b+"x", 0), end(3))
		} else {
			tokens, _, err := token.Split("x" + b)
			if err == api.OK && tokens[0] != name("x", 0) {
				t.Errorf("Split(%q) begins with %+v", "x"+b, tokens[0])
			}
		}
		if letter {
			wantSplit(t, b, name(b, 0), end(1))
			wantSplit(t, "x."+b, name("x."+b, 0), end(3))
		} else {
			wantFault(t, "x."+b, 1, api.ErrSyntax)
			wantFault(t, "x.y."+b, 3, api.ErrSyntax)
		}
	}
}

// P7.3: integers.
func TestSplitIntegers(t *testing.T) {
	for s, n := range map[string]int{
		"0": 0, "1": 1, "9": 9, "10": 10, "100": 100, "19": 19, "90": 90, "909": 909, "123456789": 123456789, "576000000": api.MaxTime + 1,
		"1000000000": 1000000000, "1073741823": api.MaxInt - 1, "1073741824": api.MaxInt,
	} {
		wantOne(t, s, number(n, 0))
		wantFault(t, s+".", len(s), api.ErrSyntax)
		wantFault(t, s+"A", len(s), api.ErrSyntax)
		wantFault(t, s+"\xff", len(s), api.ErrSyntax)
	}
	wantSplit(t, "0 0", number(0, 0), number(0, 2), end(3))
	wantSplit(t, "0-0+ 1", number(0, 0), symbol("-", 1), number(0, 2), symbol("+", 3), number(1, 5), end(6))
}

// P7.3: text literals, with each byte.
func TestSplitTexts(t *testing.T) {
	for s, x := range map[string]string{
		"''": "", "' '": " ", "'a'": "a", "''''": "'", "''''''": "''", "'a'''": "a'", "'''a'": "'a", "'a''b'": "a'b", "'a''''b'": "a''b", "'''a''b'''": "'a'b'",
		"'a\n#b'": "a\n#b", "'#'": "#", "'\n'": "\n", "'\t'": "\t", "'\\'": "\\", "'\\n'": "\\n", "'\"'": "\"", "'@'": "@", "'1 + 2'": "1 + 2", "'é\xff\x00'": "é\xff\x00",
	} {
		wantOne(t, s, text(x, 0))
	}
	for _, b := range bytes256() {
		if b != "'" {
			wantOne(t, "'"+b+"'", text(b, 0))
			wantOne(t, "'a"+b+"''"+b+b+"'", text("a"+b+"'"+b+b, 0))
		}
	}
	wantSplit(t, "'a' 'b'", text("a", 0), text("b", 4), end(7))
	wantSplit(t, "'' ''", text("", 0), text("", 3), end(5))
	wantSplit(t, "'a'#'", text("a", 0), end(5))
}

// P7.3: text literals of up to MaxText bytes, counted without the second
// apostrophes of pairs.
func TestSplitLongTexts(t *testing.T) {
	for size := range api.MaxText + 1 {
		wantOne(t, "'"+widest[:size]+"'", text(widest[:size], 0))
		wantOne(t, "'"+strings.Repeat("''", size)+"'", text(strings.Repeat("'", size), 0))
	}
	wantOne(t, "'"+widest[1:]+"'''", text(widest[1:]+"'", 0))
	wantOne(t, "'"+strings.Repeat("é", api.MaxText/2)+"'", text(strings.Repeat("é", api.MaxText/2), 0))
}

// P7.3: times, among them the first and the last one.
func TestSplitTimes(t *testing.T) {
	for s, n := range map[string]int{
		"@1970-01-01T00:00": 0, "@1970-01-01T00:01": 1, "@1970-01-02T00:01": 1441, "@2026-11-16T12:34": 20773*1440 + 12*60 + 34,
		"@3065-02-28T23:58": api.MaxTime - 1, "@3065-02-28T23:59": api.MaxTime,
	} {
		wantOne(t, s, moment(n, 0))
	}
	for n := 0; n <= api.MaxTime; n += 99991 {
		s, _ := civil.Format(n)
		wantSplit(t, "@"+s, moment(n, 0), end(17))
	}
}

// P7.3: each symbol, alone and behind any other one; the longest one that
// begins at a place is the token.
func TestSplitSymbols(t *testing.T) {
	for _, s := range symbols() {
		wantSplit(t, s, symbol(s, 0), end(len(s)))
		wantSplit(t, s+"a", symbol(s, 0), name("a", len(s)), end(len(s)+1))
		wantSplit(t, "a"+s+"#", name("a", 0), symbol(s, 1), end(len(s)+2))
		for _, other := range symbols() {
			wantSplit(t, s+" "+other, symbol(s, 0), symbol(other, len(s)+1), end(len(s)+1+len(other)))
		}
	}
	wantSplit(t, "+++ +", symbol("++", 0), symbol("+", 2), symbol("+", 4), end(5))
	wantSplit(t, "++++", symbol("++", 0), symbol("++", 2), end(4))
	wantSplit(t, "+ +", symbol("+", 0), symbol("+", 2), end(3))
	wantSplit(t, "<=>=!=<>=", symbol("<=", 0), symbol(">=", 2), symbol("!=", 4), symbol("<", 6), symbol(">=", 7), end(9))
	wantSplit(t, "<==", symbol("<=", 0), symbol("=", 2), end(3))
	wantSplit(t, "=<=>", symbol("=", 0), symbol("<=", 1), symbol(">", 3), end(4))
	wantSplit(t, "!==", symbol("!=", 0), symbol("=", 2), end(3))
	wantSplit(t, "<\n=", symbol("<", 0), symbol("=", 2), end(3))
	wantSplit(t, "<#\n=", symbol("<", 0), symbol("=", 3), end(4))
	wantSplit(t, "--", symbol("-", 0), symbol("-", 1), end(2))
	wantSplit(t, "<<>>", symbol("<", 0), symbol("<", 1), symbol(">", 2), symbol(">", 3), end(4))
	wantSplit(t, "||", symbol("|", 0), symbol("|", 1), end(2))
}

// P7.3: texts of MaxSource bytes; those with one byte more are in
// TestSplitLimit.
func TestSplitLongSources(t *testing.T) {
	blanks := strings.Repeat(" ", api.MaxSource)
	wantSplit(t, blanks, end(api.MaxSource))
	wantSplit(t, blanks[1:]+"a", name("a", api.MaxSource-1), end(api.MaxSource))
	wantSplit(t, "a"+blanks[1:], name("a", 0), end(api.MaxSource))
	wantSplit(t, "#"+strings.Repeat("'", api.MaxSource-1), end(api.MaxSource))
	wantSplit(t, strings.Repeat("\n", api.MaxSource), end(api.MaxSource))
	var pluses []api.Token
	for at := range api.MaxSource / 2 {
		pluses = append(pluses, symbol("++", 2*at))
	}
	wantSplit(t, strings.Repeat("+", api.MaxSource), append(pluses, end(api.MaxSource))...)
}
