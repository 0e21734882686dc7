package token_test

import (
	"math/rand"
	"regexp"
	"slices"
	"strconv"
	"strings"
	"testing"

	"warehouse/api"
	"warehouse/civil"
	"warehouse/token"
)

// The tokens of the chapter as regular expressions. A text literal ends at an
// apostrophe that no other one follows.
var (
	blankForm   = regexp.MustCompile(`^(?:[ \t\n]|#[^\n]*)+`)
	nameForm    = regexp.MustCompile(`^([a-z][a-z0-9_]*)(?:\.([a-z][a-z0-9_]*))?`)
	integerForm = regexp.MustCompile(`^([0-9]+)([a-z_]?)`)
	literalForm = regexp.MustCompile(`^'((?:[^']|'')*)'(?:[^']|$)`)
	symbolForm  = regexp.MustCompile(`^(?:\+\+|<=|>=|!=|[(),;:|=+*/%<>-])`)
)

// reference is Split, for texts of at most MaxSource bytes.
func reference(s string) (tokens []api.Token, at int, e api.Errno) {
	for {
		at += len(blankForm.FindString(s[at:]))
		if at == len(s) {
			return append(tokens, end(at)), 0, api.OK
		}
		x, size, err := referenceToken(s[at:])
		if err != api.OK {
			return nil, at, err
		}
		x.At = at
		tokens = append(tokens, x)
		at += size
	}
}

// referenceToken returns the token at the beginning of s and its size.
func referenceToken(s string) (api.Token, int, api.Errno) {
	if m := nameForm.FindStringSubmatch(s); m != nil {
		if len(m[1]) > api.MaxName || len(m[2]) > api.MaxName {
			return api.Token{}, 0, api.ErrName
		}
		return name(m[0], 0), len(m[0]), api.OK
	}
	if m := integerForm.FindStringSubmatch(s); m != nil {
		if m[2] != "" || m[1] != "0" && m[1][0] == '0' {
			return api.Token{}, 0, api.ErrSyntax
		}
		n, err := strconv.ParseInt(m[1], 10, 32)
		if err != nil || n > api.MaxInt {
			return api.Token{}, 0, api.ErrRange
		}
		return number(int(n), 0), len(m[1]), api.OK
	}
	if m := literalForm.FindStringSubmatch(s); m != nil {
		x := strings.Join(strings.Split(m[1], "''"), "'")
		if len(x) > api.MaxText {
			return api.Token{}, 0, api.ErrLimit
		}
		return text(x, 0), len(m[1]) + 2, api.OK
	}
	if s[0] == '@' && len(s) >= 17 {
		n, err := civil.Parse(s[1:17])
		return moment(n, 0), 17, err
	}
	if m := symbolForm.FindString(s); m != "" {
		return symbol(m, 0), len(m), api.OK
	}
	return api.Token{}, 0, api.ErrSyntax
}

// wantReference ends the test unless Split of s gives what reference gives.
func wantReference(t *testing.T, s string) {
	t.Helper()
	tokens, at, err := token.Split(s)
	want, wantAt, wantErr := reference(s)
	if !slices.Equal(tokens, want) || at != wantAt || err != wantErr {
		t.Fatalf("Split(%q) is %+v, %d, %d, not %+v, %d, %d", s, tokens, at, err, want, wantAt, wantErr)
	}
}

// P7.3: all texts of up to four pieces.
func TestSplitShortTexts(t *testing.T) {
	pieces := []string{"", "a", "Z", "0", "7", "_", ".", "'", "#", "\n", " ", "+", "<", "!", "=", "@", "\xff"}
	for _, a := range pieces {
		for _, b := range pieces {
			for _, c := range pieces {
				for _, d := range pieces {
					wantReference(t, a+b+c+d)
				}
			}
		}
	}
}

// P7.3: every two bytes, alone and behind a letter.
func TestSplitTwoBytes(t *testing.T) {
	for _, a := range bytes256() {
		for _, b := range bytes256() {
			wantReference(t, a+b)
			wantReference(t, "x"+a+b)
		}
	}
}

// P7.3: random texts of tokens, faulty tokens, blanks and comments.
func TestSplitRandomTexts(t *testing.T) {
	r := rand.New(rand.NewSource(7))
	pieces := append(symbols(), "a", "b1", "x_", ".", "core.a", "0", "10", "1073741824", "'", "''", "'a'", "'it''s'", "@1970-01-02T00:01", "@3065-02-28T23:59", " ", "  ", "\t", "\n", "# c\n", "#'\n", longest)
	faults := []string{"A", "01", "1073741825", "'" + widest + "x'", "@1970-01-01T24:00", "@", "!", "$", "\xff", longest + "n"}
	for range 30000 {
		var s strings.Builder
		for range r.Intn(12) {
			s.WriteString(pieces[r.Intn(len(pieces))])
		}
		if r.Intn(3) == 0 {
			s.WriteString(faults[r.Intn(len(faults))])
			s.WriteString(pieces[r.Intn(len(pieces))])
		}
		wantReference(t, s.String())
	}
}
