package token

import (
	"strconv"
	"strings"

	"warehouse/api"
	"warehouse/civil"
)

// Join returns a text with the given tokens, separated by single spaces. It
// returns the error of Validate, or ErrLimit if the text is too long (P7.4).
func Join(tokens []api.Token) (string, api.Errno) {
	if err := Validate(tokens); err != api.OK {
		return "", err
	}
	var texts []string
	size := 0
	for i, t := range tokens[:len(tokens)-1] {
		if i > 0 {
			size++
		}
		s := write(t)
		size += len(s)
		// A valid list may be far longer than a text.
		if size > api.MaxSource {
			return "", api.ErrLimit
		}
		texts = append(texts, s)
	}
	return strings.Join(texts, " "), api.OK
}

// write returns the text of a token that is valid and not the end.
func write(t api.Token) string {
	switch t.Kind {
	case api.TokInt:
		return strconv.Itoa(t.Num)
	case api.TokText:
		return "'" + strings.ReplaceAll(t.Text, "'", "''") + "'"
	case api.TokTime:
		s, _ := civil.Format(t.Num)
		return "@" + s
	}
	return t.Text
}
