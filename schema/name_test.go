package schema_test

import (
	"regexp"
	"strings"
	"testing"

	"warehouse/api"
	"warehouse/schema"
)

// longest is a name of the greatest length that a name may have.
var longest = strings.Repeat("n", api.MaxName)

// wantName reports an error unless IsName and IsQualified of s are is; s has no
// dot.
func wantName(t *testing.T, s string, is bool) {
	t.Helper()
	if schema.IsName(s) != is {
		t.Errorf("IsName(%q) is %t", s, !is)
	}
	wantQualified(t, s, is)
}

// wantQualified reports an error unless IsQualified of s is is.
func wantQualified(t *testing.T, s string, is bool) {
	t.Helper()
	if schema.IsQualified(s) != is {
		t.Errorf("IsQualified(%q) is %t", s, !is)
	}
}

// others returns texts without a dot that are no names.
func others() []string {
	return []string{
		"", "1", "1a", "_", "_a", "__", "A", "aB", "Aa", "AB", " ", " a", "a ", "a b", "a-b", "-a", "a\n", "\na", "a\x00", "\x00", "\x00a",
		"é", "aé", "éa", "a\xff", "\xff", "\xffa", "\xc3", "a\xc3", "a\u0301", "\ufffd", "a\ufffd", "ａ", "aａ", "a٣", "a１", "ª", "aª", "á", "ſ", "a\u2024b",
		// The low bytes of these runes are a letter, a digit and an underscore.
		"\u0161", "a\u0161", "a\u0131", "a\u015f", "\U00010061", "a\U00010061",
		longest + "n", longest + "1", longest + "_", "1" + longest[1:], longest[1:] + "A", strings.Repeat("é", api.MaxName/2), strings.Repeat("n", 256), strings.Repeat("n", 257), strings.Repeat("n", 1<<16),
	}
}

// P5.1: the chapter's example 1.
func TestNameExample(t *testing.T) {
	wantName(t, "a_1", true)
	wantName(t, "1a", false)
	wantName(t, "A", false)
	wantQualified(t, "core.a", true)
	wantQualified(t, "a.b.c", false)
}

// P5.1
func TestNames(t *testing.T) {
	for _, s := range []string{"a", "z", "aa", "az", "a0", "a9", "z0", "a_", "a__", "a_1", "a1_", "n1a", "berlin", "count_distinct", "from", "self", "a0123456789_bcdefghijklm", "m0123456789_nopqrstuvwxyz"[:api.MaxName], longest, longest[1:], longest[1:] + "_", longest[1:] + "0"} {
		wantName(t, s, true)
	}
	for _, s := range others() {
		wantName(t, s, false)
	}
}

// P5.1: every byte at the first, a middle and the last place of names of any
// length.
func TestBytesOfNames(t *testing.T) {
	for n := range 256 {
		b := byte(n)
		letter := strings.IndexByte("abcdefghijklmnopqrstuvwxyz", b) >= 0
		part := letter || strings.IndexByte("0123456789_", b) >= 0
		c := string([]byte{b})
		if b == '.' {
			continue
		}
		wantName(t, c, letter)
		for size := 2; size <= api.MaxName; size++ {
			wantName(t, c+longest[:size-1], letter)
			wantName(t, longest[:size-1]+c, part)
			wantName(t, longest[:size/2]+c+longest[size/2+1:size], part)
		}
		wantName(t, longest+c, false)
		wantName(t, c+longest, false)
	}
}

// P5.1: a name has from 1 to MaxName bytes.
func TestLengthsOfNames(t *testing.T) {
	for size := range 4 * api.MaxName {
		s := strings.Repeat("a", size)
		wantName(t, s, 1 <= size && size <= api.MaxName)
		wantQualified(t, "b."+s, 1 <= size && size <= api.MaxName)
		wantQualified(t, s+".b", 1 <= size && size <= api.MaxName)
	}
}

// P5.1: a name has no dot; no dot, one and two in qualified names.
func TestDots(t *testing.T) {
	for _, s := range []string{".", "a.", ".a", "a.b", "core.a", "a.b.c", "..", longest[:11] + "." + longest[:12]} {
		if schema.IsName(s) {
			t.Errorf("IsName(%q) is true", s)
		}
	}
	for _, s := range []string{"a", "a.b", "a.a", "core.a", "a_1.b_2", "z9.z9", longest, longest + ".a", "a." + longest, longest + "." + longest} {
		wantQualified(t, s, true)
	}
	for _, s := range []string{"", ".", "..", "...", ".a", "a.", "a..", "..a", ".a.", "a..b", ".a.b", "a.b.", "a.b.c", "a.b.c.d", "core.a.", ".core.a", longest + ".", "." + longest, longest + "." + longest + ".", longest + "." + longest + "." + longest, strings.Repeat("a.", 1<<16)} {
		wantQualified(t, s, false)
	}
}

// P5.1: both parts of a qualified name are names.
func TestPartsOfQualifiedNames(t *testing.T) {
	for _, s := range others() {
		wantQualified(t, s+".a", false)
		wantQualified(t, "a."+s, false)
		wantQualified(t, s+"."+s, false)
		wantQualified(t, "a.b."+s, false)
		wantQualified(t, s+"."+longest, false)
		wantQualified(t, longest+"."+s, false)
	}
}

// P5.1: all short texts of a few bytes, against regular expressions.
func TestNamesAgainstExpressions(t *testing.T) {
	name := regexp.MustCompile(`\A[a-z][a-z0-9_]{0,23}\z`)
	qualified := regexp.MustCompile(`\A[a-z][a-z0-9_]{0,23}(\.[a-z][a-z0-9_]{0,23})?\z`)
	texts := []string{""}
	for len(texts[0]) <= 6 {
		var longer []string
		for _, s := range texts {
			if schema.IsName(s) != name.MatchString(s) || schema.IsQualified(s) != qualified.MatchString(s) {
				t.Errorf("%q: IsName is %t, IsQualified is %t", s, schema.IsName(s), schema.IsQualified(s))
			}
			for _, c := range "az0_.A" {
				longer = append(longer, s+string(c))
			}
		}
		texts = longer
	}
}
