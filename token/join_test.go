package token_test

import (
	"math/rand"
	"slices"
	"strings"
	"testing"

	"warehouse/api"
	"warehouse/civil"
	"warehouse/token"
)

// wantJoin reports an error unless Join of tokens returns s, and unless Split
// of s gives the same tokens, apart from At.
func wantJoin(t *testing.T, s string, tokens ...api.Token) {
	t.Helper()
	got, err := token.Join(tokens)
	if got != s || err != api.OK {
		t.Errorf("Join(%+v) is %q, %d, not %q", few(tokens), cut(got), err, cut(s))
	}
	again, at, err := token.Split(got)
	if !slices.EqualFunc(again, tokens, sameToken) || at != 0 || err != api.OK {
		t.Errorf("Split(%q) is %+v, %d, %d, not %+v", cut(got), few(again), at, err, few(tokens))
	}
}

// sameToken reports whether two tokens are equal apart from At.
func sameToken(a, b api.Token) bool {
	a.At, b.At = 0, 0
	return a == b
}

// P7.4: each kind of token, alone and among others.
func TestJoin(t *testing.T) {
	wantJoin(t, "", end(0))
	wantJoin(t, "", end(7))
	wantJoin(t, "a.b ( 12 'it''s' @1970-01-02T00:01", name("a.b", 9), symbol("(", 8), number(12, 7), text("it's", 6), moment(1441, -5), end(4))
	for s, x := range map[string]api.Token{
		"a": name("a", 3), "core.a_1": name("core.a_1", 0), "and": name("and", 0), longest + "." + longest: name(longest+"."+longest, 0),
		"0": number(0, 0), "7": number(7, 1), "10": number(10, 0), "1073741824": number(api.MaxInt, 0),
		"''": text("", 0), "'a'": text("a", 0), "'a b'": text("a b", 0), "''''": text("'", 0), "''''''": text("''", 0), "'it''s'": text("it's", 0), "'a''''b'": text("a''b", 0),
		"' '": text(" ", 0), "'a\n#b'": text("a\n#b", 0), "'\\'": text("\\", 0), "'\x00\xff'": text("\x00\xff", 0), "'" + widest + "'": text(widest, 0),
		"'" + strings.Repeat("''", api.MaxText) + "'": text(strings.Repeat("'", api.MaxText), 0),
		"@1970-01-01T00:00":                           moment(0, 0), "@2026-11-16T12:34": moment(20773*1440+12*60+34, 0), "@3065-02-28T23:59": moment(api.MaxTime, 0),
	} {
		wantJoin(t, s, x, end(0))
		wantJoin(t, s+" "+s, x, x, end(0))
		wantJoin(t, "a "+s+" 1 "+s+" 'b' "+s+" + "+s, name("a", 0), x, number(1, 0), x, text("b", 0), x, symbol("+", 0), x, end(0))
	}
	for _, b := range bytes256() {
		if b != "'" {
			wantJoin(t, "'"+b+"' '"+b+"'''", text(b, 0), text(b+"'", 0), end(0))
		}
	}
}

// P7.4: every two symbols stay apart.
func TestJoinSymbols(t *testing.T) {
	for _, s := range symbols() {
		wantJoin(t, s, symbol(s, 0), end(0))
		for _, other := range symbols() {
			wantJoin(t, s+" "+other, symbol(s, 0), symbol(other, 0), end(0))
		}
	}
}

// P7.4: the numbers At change nothing.
func TestJoinAt(t *testing.T) {
	tokens, _, _ := token.Split("a\n+ 'b' # c\n*@1970-01-02T00:01(1)")
	for _, at := range []int{-1 << 62, -1, 0, 1, api.MaxSource + 1, 1 << 62} {
		for i := range tokens {
			tokens[i].At = at
		}
		wantJoin(t, "a + 'b' * @1970-01-02T00:01 ( 1 )", tokens...)
	}
}

// P7.4: results of MaxSource bytes, and of one more, with each kind of token
// at the end.
func TestJoinLimit(t *testing.T) {
	for s, x := range map[string]api.Token{"a.b": name("a.b", 0), "123": number(123, 0), "'it''s'": text("it's", 0), "''": text("", 0), "@1970-01-01T00:00": moment(0, 0), "+": symbol("+", 0), "<=": symbol("<=", 0)} {
		// A plus and the space behind it have two bytes: where an odd number of
		// bytes is left, one symbol has a byte more.
		rest := api.MaxSource - len(s)
		pluses := slices.Repeat(list(symbol("+", 0)), rest/2)
		want := strings.Repeat("+ ", rest/2)
		if rest%2 > 0 {
			pluses[0].Text, want = "++", "+"+want
		}
		wantJoin(t, want+s, append(slices.Clip(pluses), x, end(0))...)
		pluses[1].Text = "++"
		wantLimit(t, append(slices.Clip(pluses), x, end(0)))
		wantLimit(t, append(slices.Clip(pluses), x, x, end(0)))
		wantLimit(t, append(list(x), append(slices.Clip(pluses), end(0))...))
	}
}

// P7.4: lists of very many tokens, and the order of the errors.
func TestJoinLongLists(t *testing.T) {
	long := slices.Repeat(list(symbol("+", 0)), api.MaxSource/2)
	wantJoin(t, strings.Repeat("+ ", api.MaxSource/2-1)+"+", append(slices.Clip(long), end(0))...)
	wantLimit(t, append(slices.Clip(long), symbol("+", 0), end(0)))
	wantLimit(t, append(slices.Repeat(list(text(strings.Repeat("'", api.MaxText), 0)), api.MaxSource), end(0)))
	for _, l := range [][]api.Token{long, append(slices.Clip(long), long...), append(slices.Clip(long), symbol("+", 0), symbol("!", 0), end(0)), append(slices.Clip(long), long[0], end(0), end(0))} {
		if s, err := token.Join(l); s != "" || err != api.ErrShape {
			t.Errorf("%d tokens: %q, %d", len(l), cut(s), err)
		}
	}
}

// wantLimit reports an error unless Join of tokens returns ErrLimit.
func wantLimit(t *testing.T, tokens []api.Token) {
	t.Helper()
	if s, err := token.Join(tokens); s != "" || err != api.ErrLimit {
		t.Errorf("Join of %d tokens is %q, %d", len(tokens), cut(s), err)
	}
}

// anyToken returns a random token with its text.
func anyToken(r *rand.Rand) (api.Token, string) {
	switch r.Intn(5) {
	case 0:
		s := []string{"a", "z9", "b_", longest, "not"}[r.Intn(5)]
		if r.Intn(2) == 0 {
			s = "core." + s
		}
		return name(s, r.Int()), s
	case 1:
		digits := []string{"0", "1", "42", "987654321", "1073741824"}
		i := r.Intn(5)
		return number([]int{0, 1, 42, 987654321, api.MaxInt}[i], r.Int()), digits[i]
	case 2:
		var s, quoted string
		for range r.Intn(api.MaxText + 1) {
			b := string([]byte{"'' \n#ab0@\xff"[r.Intn(10)]})
			s += b
			if b == "'" {
				b = "''"
			}
			quoted += b
		}
		return text(s, r.Int()), "'" + quoted + "'"
	case 3:
		n := r.Intn(api.MaxTime + 1)
		s, _ := civil.Format(n)
		return moment(n, r.Int()), "@" + s
	}
	s := symbols()[r.Intn(len(symbols()))]
	return symbol(s, r.Int()), s
}

// P7.4: random lists, which Split of Join's result gives again.
func TestJoinRandomLists(t *testing.T) {
	r := rand.New(rand.NewSource(7))
	for range 2000 {
		var tokens []api.Token
		var texts []string
		for range r.Intn(40) {
			x, s := anyToken(r)
			tokens, texts = append(tokens, x), append(texts, s)
		}
		wantJoin(t, strings.Join(texts, " "), append(tokens, end(r.Int()))...)
	}
}
