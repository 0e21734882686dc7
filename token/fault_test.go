package token_test

import (
	"strings"
	"testing"

	"warehouse/api"
	"warehouse/token"
)

// wantFault reports an error unless Split of s returns err with the offset at.
func wantFault(t *testing.T, s string, at int, err api.Errno) {
	t.Helper()
	tokens, gotAt, got := token.Split(s)
	if len(tokens) > 0 || gotAt != at || got != err {
		t.Errorf("Split(%q) is %+v, %d, %d, not %d, %d", cut(s), few(tokens), gotAt, got, at, err)
	}
}

// wantFaulty reports an error unless Split returns err for a faulty token,
// alone and with other tokens and other faults around it.
func wantFaulty(t *testing.T, s string, err api.Errno) {
	t.Helper()
	wantFault(t, s, 0, err)
	wantFault(t, "\n"+s, 1, err)
	wantFault(t, "# $\n"+s, 4, err)
	wantFault(t, "ab.c "+s, 5, err)
	wantFault(t, "1 + 'a''b' "+s, 11, err)
	wantFault(t, "@1970-01-01T00:00;"+s, 18, err)
	wantFault(t, "$ "+s, 0, api.ErrSyntax)
	wantFault(t, "x 007 "+s, 2, api.ErrSyntax)
	wantFault(t, "x 1073741825 "+s, 2, api.ErrRange)
	wantFault(t, "x y."+longest+"n "+s, 2, api.ErrName)
	wantFault(t, "x '"+widest+"x' "+s, 2, api.ErrLimit)
}

// P7.3: the parts of names that are too long.
func TestSplitLongNames(t *testing.T) {
	long := longest + "n"
	for _, s := range []string{
		long, longest + "1", longest + "_", long + ".a", "a." + long, "a." + longest + "0", longest + "." + long, long + "." + longest, long + "." + long,
		strings.Repeat("n", 256), strings.Repeat("n", 257), strings.Repeat("a", api.MaxSource/2), "a." + strings.Repeat("a", api.MaxSource/2),
	} {
		wantFaulty(t, s, api.ErrName)
		wantFault(t, s+" $", 0, api.ErrName)
		wantFault(t, s+"A", 0, api.ErrName)
		wantFault(t, s+".", 0, api.ErrName)
		wantFault(t, s+".1", 0, api.ErrName)
		wantFault(t, s+"'", 0, api.ErrName)
	}
	wantFault(t, "b "+long+".b", 2, api.ErrName)
}

// P7.3: dots that are no part of a name, and letters that begin none.
func TestSplitOtherNames(t *testing.T) {
	for s, at := range map[string]int{
		"a.": 1, "a. b": 1, "a .b": 2, "a.\nb": 1, "a..b": 1, "a.1": 1, "a._": 1, "a.B": 1, "a.'b'": 1, "a.b.c": 3, "a.b.": 3, "a.b..": 3, "a.b.1": 3, "ab.c_1.d": 6, ".a": 0, ".": 0,
		longest + ".": api.MaxName, longest + "." + longest + ".a": 2*api.MaxName + 1,
		"A": 0, "aA": 1, "Aa": 0, "Z": 0, "_": 0, "_a": 0, "a _": 2, "é": 0, "aé": 1, "ａ": 0, "a\xe4": 1,
	} {
		wantFault(t, s, at, api.ErrSyntax)
	}
}

// P7.3: leading zeros, and letters and underscores behind digits.
func TestSplitFaultyIntegers(t *testing.T) {
	for _, s := range []string{"007", "00", "01", "000", "00000000000000000000", "01073741824", "01073741825", "0" + strings.Repeat("9", 100)} {
		wantFaulty(t, s, api.ErrSyntax)
		wantFault(t, s+" $", 0, api.ErrSyntax)
	}
	for _, s := range []string{"0", "1", "9", "10", "007", "1073741824", "1073741825", "99999999999999999999999", strings.Repeat("9", 400)} {
		for _, b := range strings.Split("abcdefghijklmnopqrstuvwxyz_", "") {
			wantFault(t, s+b, 0, api.ErrSyntax)
			wantFault(t, "x "+s+b+"1", 2, api.ErrSyntax)
		}
	}
	wantFaulty(t, "9a", api.ErrSyntax)
	wantFaulty(t, "9_", api.ErrSyntax)
	wantFaulty(t, "0x1", api.ErrSyntax)
	wantFaulty(t, "1e5", api.ErrSyntax)
	wantFaulty(t, "1_000", api.ErrSyntax)
}

// P7.3: integers that are too great.
func TestSplitGreatIntegers(t *testing.T) {
	for _, s := range []string{
		"1073741825", "1073741826", "1073741830", "1073742000", "2000000000", "2147483647", "2147483648", "4294967295", "4294967296", "4294967297", "9999999999", "10000000000",
		"9223372036854775807", "9223372036854775808", "18446744073709551615", "18446744073709551616", "18446744073709551617", "99999999999999999999999",
		"1" + strings.Repeat("0", 64), strings.Repeat("9", 400), strings.Repeat("1", api.MaxSource/2),
	} {
		wantFaulty(t, s, api.ErrRange)
		wantFault(t, s+" $", 0, api.ErrRange)
		wantFault(t, s+"A", 0, api.ErrRange)
		wantFault(t, s+".", 0, api.ErrRange)
	}
	wantFault(t, strings.Repeat("9", api.MaxSource), 0, api.ErrRange)
	wantFault(t, strings.Repeat("9", api.MaxSource-1)+"a", 0, api.ErrSyntax)
	wantFault(t, strings.Repeat("0", api.MaxSource), 0, api.ErrSyntax)
}

// P7.3: text literals without an end.
func TestSplitOpenTexts(t *testing.T) {
	for _, s := range []string{"'", "'a", "'a''", "'''", "'''''", "'a''b", "'a''b''", "'\n", "'#", "'a\n# b"} {
		wantFault(t, s, 0, api.ErrSyntax)
		wantFault(t, "a "+s, 2, api.ErrSyntax)
		wantFault(t, "'' "+s, 3, api.ErrSyntax)
	}
	wantFault(t, "'a' '", 4, api.ErrSyntax)
	wantFault(t, "'a'b'", 4, api.ErrSyntax)
	wantFault(t, "'a'\n'", 4, api.ErrSyntax)
	wantFault(t, "'a'\n''b'", 7, api.ErrSyntax)
	wantFault(t, "' '' ' '", 7, api.ErrSyntax)
}

// P7.3: text literals of more than MaxText bytes, with and without an end.
func TestSplitLongLiterals(t *testing.T) {
	for _, s := range []string{widest + "x", widest + widest, widest + "''", strings.Repeat("''", api.MaxText+1), strings.Repeat("é", api.MaxText/2) + "e", strings.Repeat("x", 255), strings.Repeat("x", 256), strings.Repeat("\n", api.MaxSource/2)} {
		wantFaulty(t, "'"+s+"'", api.ErrLimit)
		wantFault(t, "'"+s+"' $", 0, api.ErrLimit)
		wantFault(t, "'"+s, 0, api.ErrSyntax)
		wantFault(t, "a '"+s, 2, api.ErrSyntax)
		wantFault(t, "'"+s+"''", 0, api.ErrSyntax)
	}
	wantFault(t, "'"+strings.Repeat("x", api.MaxSource-1), 0, api.ErrSyntax)
	wantFault(t, "'"+strings.Repeat("x", api.MaxSource-2)+"'", 0, api.ErrLimit)
	wantFault(t, strings.Repeat("'", api.MaxSource), 0, api.ErrLimit)
	wantFault(t, strings.Repeat("'", api.MaxSource-1), 0, api.ErrSyntax)
}

// P7.3: too few bytes behind the @.
func TestSplitShortTimes(t *testing.T) {
	const s = "@2026-11-16T12:34"
	for size := 1; size < len(s); size++ {
		wantFault(t, s[:size], 0, api.ErrSyntax)
		wantFault(t, "a "+s[:size], 2, api.ErrSyntax)
		wantFault(t, s+s[:size], len(s), api.ErrSyntax)
		wantFaulty(t, s[:size]+" ", api.ErrSyntax)
		wantFaulty(t, s[:size]+"#"+s, api.ErrSyntax)
	}
	wantFault(t, "@9999-99-99T99:9", 0, api.ErrSyntax)
	wantFault(t, "@ 2026-11-16T12:34", 0, api.ErrSyntax)
}

// P7.3: 16 bytes behind the @ that are no time, with the error of civil.Parse.
func TestSplitFaultyTimes(t *testing.T) {
	for _, s := range []string{"@1970-01-01t00:00", "@1970-01-01 00:00", "@1970-1-01T00:000", "@x970-01-01T00:00", "@9999-99-99T99:9x", "@@@@@@@@@@@@@@@@@", "@                ", "@1970-01-01T00:é", "@'970-01-01T00:00"} {
		wantFaulty(t, s, api.ErrSyntax)
		wantFault(t, s+"$", 0, api.ErrSyntax)
	}
	for _, s := range []string{"@1970-01-01T24:00", "@1970-01-01T00:60", "@1970-00-01T00:00", "@1970-13-01T00:00", "@2023-02-29T00:00", "@1969-12-31T23:59", "@3065-03-01T00:00", "@9999-99-99T99:99", "@0000-00-00T00:00"} {
		wantFaulty(t, s, api.ErrRange)
		wantFault(t, s+"$", 0, api.ErrRange)
		wantFault(t, s+"a", 0, api.ErrRange)
	}
}

// P7.3: bytes with which no token begins, those of 128 and more among them.
func TestSplitOtherBytes(t *testing.T) {
	const begin = " \t\n#abcdefghijklmnopqrstuvwxyz0123456789'@(),;:|=+-*/%<>!"
	for _, b := range bytes256() {
		if !strings.Contains(begin, b) {
			wantFaulty(t, b, api.ErrSyntax)
			wantFaulty(t, b+"=", api.ErrSyntax)
			wantFaulty(t, b+"'", api.ErrSyntax)
			wantFault(t, "a"+strings.Repeat(" ", 300)+b, 301, api.ErrSyntax)
		}
		if b != "=" {
			wantFault(t, "!"+b, 0, api.ErrSyntax)
			wantFault(t, "a!"+b, 1, api.ErrSyntax)
		}
	}
	wantFaulty(t, "!", api.ErrSyntax)
	wantFaulty(t, "! =", api.ErrSyntax)
	wantFault(t, "a\r\nb", 1, api.ErrSyntax)
	wantFault(t, "a ? b", 2, api.ErrSyntax)
	wantFault(t, "\ufeffa", 0, api.ErrSyntax)
	wantFault(t, "a\u00a0b", 1, api.ErrSyntax)
	wantFault(t, "a\vb", 1, api.ErrSyntax)
	wantFault(t, "a ≤ b", 2, api.ErrSyntax)
}

// P7.3: texts of more than MaxSource bytes, whatever else is wrong with them.
func TestSplitLimit(t *testing.T) {
	blanks := strings.Repeat(" ", api.MaxSource)
	for _, s := range []string{
		blanks + " ", blanks + "a", blanks + "$", blanks + blanks, "a" + blanks, "$" + blanks, "a $" + blanks, "'" + blanks, "007" + blanks, "1073741825" + blanks, longest + "n" + blanks,
		"#" + blanks, strings.Repeat("a", api.MaxSource+1), strings.Repeat("9", api.MaxSource+1), strings.Repeat("\xff", api.MaxSource+1), "'" + widest + "x'" + blanks, strings.Repeat("x", 1<<20),
	} {
		wantFault(t, s, 0, api.ErrLimit)
	}
	wantFault(t, blanks[1:]+"$", api.MaxSource-1, api.ErrSyntax)
	wantFault(t, "a"+blanks[2:]+"$", api.MaxSource-1, api.ErrSyntax)
	wantFault(t, "$"+blanks[1:], 0, api.ErrSyntax)
	wantFault(t, blanks[:api.MaxSource-25]+longest+"n", api.MaxSource-25, api.ErrName)
}

// P7.3: the first error from the beginning of the text.
func TestSplitFirstError(t *testing.T) {
	faults := []struct {
		s   string
		err api.Errno
	}{
		{"$", api.ErrSyntax}, {"007", api.ErrSyntax}, {"9a", api.ErrSyntax}, {"@1970-01-01x00:00", api.ErrSyntax}, {"1073741825", api.ErrRange}, {"@1970-01-01T24:00", api.ErrRange},
		{longest + "n", api.ErrName}, {"a." + longest + "n", api.ErrName}, {"'" + widest + "x'", api.ErrLimit},
	}
	for _, x := range faults {
		for _, y := range faults {
			wantFault(t, x.s+" "+y.s, 0, x.err)
			wantFault(t, "a + "+x.s+"\n"+y.s, 4, x.err)
			wantFault(t, "a # "+y.s+"\n"+x.s, len(y.s)+5, x.err)
		}
		wantFault(t, x.s+" '", 0, x.err)
		wantFault(t, "'a' '' "+x.s+" '", 7, x.err)
	}
}
