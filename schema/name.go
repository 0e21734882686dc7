package schema

import (
	"strings"

	"warehouse/api"
)

// IsName reports whether s is a name: 1 to MaxName bytes, a letter from a to z
// and then letters, digits or underscores (P5.1).
func IsName(s string) bool {
	if s == "" || len(s) > api.MaxName {
		return false
	}
	for i, c := range s {
		if !isLetter(c) && (i == 0 || !isDigit(c) && c != '_') {
			return false
		}
	}
	return true
}

// IsQualified reports whether s is a name, or two names with a dot between
// them (P5.1).
func IsQualified(s string) bool {
	// A second dot stays in the last part, which is no name then.
	if module, name, found := strings.Cut(s, "."); found {
		return areNames(module, name)
	}
	return areNames(s)
}

// areNames reports whether every part is a name.
func areNames(parts ...string) bool {
	for _, s := range parts {
		if !IsName(s) {
			return false
		}
	}
	return true
}

// isLetter reports whether c is a letter of names.
func isLetter(c rune) bool {
	return 'a' <= c && c <= 'z'
}

// isDigit reports whether c is a digit of names.
func isDigit(c rune) bool {
	return '0' <= c && c <= '9'
}
