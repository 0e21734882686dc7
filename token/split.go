package token

import (
	"strconv"
	"strings"

	"warehouse/api"
	"warehouse/civil"
	"warehouse/schema"
)

// timeSize is the number of bytes of a time behind its @.
const timeSize = 16

// Split returns the tokens of text, the last of which is its end. It returns
// ErrLimit for a text that is too long, or else the error of the first faulty
// token with its offset (P7.3).
func Split(text string) (tokens []api.Token, at int, e api.Errno) {
	if len(text) > api.MaxSource {
		return nil, 0, api.ErrLimit
	}
scan:
	for at < len(text) {
		switch text[at] {
		case ' ', '\t', '\n':
			at++
			continue scan
		case '#':
			at += commentSize(text[at:])
			continue scan
		}
		t, size, err := read(text[at:])
		if err != api.OK {
			return nil, at, err
		}
		t.At = at
		tokens = append(tokens, t)
		at += size
	}
	return append(tokens, api.Token{Kind: api.TokEnd, At: at}), 0, api.OK
}

// commentSize returns the number of bytes before the first line feed of s.
func commentSize(s string) int {
	if size := strings.IndexByte(s, '\n'); size >= 0 {
		return size
	}
	return len(s)
}

// read returns the token at the beginning of s, which is neither empty nor
// begins with a blank or a comment, and its number of bytes.
func read(s string) (t api.Token, size int, e api.Errno) {
	switch b := s[0]; {
	case isLetter(b):
		return readName(s)
	case isDigit(b):
		return readInt(s)
	case b == '\'':
		return readText(s)
	case b == '@':
		return readTime(s)
	}
	return readSymbol(s)
}

// readName reads a token of s, which begins with a letter. It returns ErrName
// if a part of the name is too long.
func readName(s string) (t api.Token, size int, e api.Errno) {
	size = wordSize(s)
	if rest := s[size:]; len(rest) > 1 && rest[0] == '.' && isLetter(rest[1]) {
		size += 1 + wordSize(rest[1:])
	}
	// The bytes are those of names, so that only the length of a part may be
	// wrong.
	if !schema.IsQualified(s[:size]) {
		return t, 0, api.ErrName
	}
	return api.Token{Kind: api.TokName, Text: s[:size]}, size, api.OK
}

// readInt reads a token of s, which begins with a digit. It returns ErrSyntax
// if the digits have a leading 0 or a letter or an underscore behind them, and
// ErrRange if their number is too great.
func readInt(s string) (t api.Token, size int, e api.Errno) {
	for size < len(s) && isDigit(s[size]) {
		size++
	}
	// More digits are part of size already: a word that goes on here does so
	// with a letter or an underscore.
	if s[0] == '0' && size > 1 || wordSize(s[size:]) > 0 {
		return t, 0, api.ErrSyntax
	}
	// Atoi's only error is a number that is too great for an int.
	n, err := strconv.Atoi(s[:size])
	if err != nil || n > api.MaxInt {
		return t, 0, api.ErrRange
	}
	return api.Token{Kind: api.TokInt, Num: n}, size, api.OK
}

// readText reads a token of s, which begins with an apostrophe. It returns
// ErrSyntax if the literal has no end, and ErrLimit if its text is too long.
func readText(s string) (t api.Token, size int, e api.Errno) {
	size = literalSize(s)
	if size == 0 {
		return t, 0, api.ErrSyntax
	}
	text := strings.ReplaceAll(s[1:size-1], "''", "'")
	if len(text) > api.MaxText {
		return t, 0, api.ErrLimit
	}
	return api.Token{Kind: api.TokText, Text: text}, size, api.OK
}

// literalSize returns the number of bytes of the text literal at the beginning
// of s, with its apostrophes, or 0 if it has no end.
func literalSize(s string) int {
	for i := 1; i < len(s); i++ {
		if s[i] != '\'' {
			continue
		}
		if i+1 == len(s) || s[i+1] != '\'' {
			return i + 1
		}
		// The second apostrophe of a pair does not begin another one.
		i++
	}
	return 0
}

// readTime reads a token of s, which begins with @. It returns the error of
// civil.Parse, which is ErrSyntax if there are too few bytes.
func readTime(s string) (t api.Token, size int, e api.Errno) {
	size = min(len(s), 1+timeSize)
	n, err := civil.Parse(s[1:size])
	if err != api.OK {
		return t, 0, err
	}
	return api.Token{Kind: api.TokTime, Num: n}, size, api.OK
}

// readSymbol reads the longest symbol at the beginning of s, which is not
// empty. It returns ErrSyntax if there is none.
func readSymbol(s string) (t api.Token, size int, e api.Errno) {
	for size = min(len(s), longestSymbol); size > 0; size-- {
		if isSymbol(s[:size]) {
			return api.Token{Kind: api.TokSymbol, Text: s[:size]}, size, api.OK
		}
	}
	return t, 0, api.ErrSyntax
}

// wordSize returns the number of letters, digits and underscores at the
// beginning of s.
func wordSize(s string) int {
	for i := range len(s) {
		if b := s[i]; !isLetter(b) && !isDigit(b) && b != '_' {
			return i
		}
	}
	return len(s)
}

// isLetter reports whether b is a letter of names.
func isLetter(b byte) bool {
	return 'a' <= b && b <= 'z'
}

// isDigit reports whether b is a digit.
func isDigit(b byte) bool {
	return '0' <= b && b <= '9'
}
