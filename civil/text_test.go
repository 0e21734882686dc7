package civil_test

import (
	"math"
	"strings"
	"testing"
	"time"

	"warehouse/api"
	"warehouse/civil"
)

// form is the form of a time as package time writes it.
const form = "2006-01-02T15:04"

// written returns the text of a number of minutes as package time writes it.
func written(minute int) string {
	return time.Unix(int64(minute)*60, 0).UTC().Format(form)
}

// moment is a number of minutes with its text.
type moment struct {
	text   string
	minute int
}

// moments returns the first and the last time and some between them.
func moments() []moment {
	return []moment{
		{"1970-01-01T00:00", 0},
		{"1970-01-01T00:01", 1},
		{"1970-01-01T00:59", 59},
		{"1970-01-01T01:00", 60},
		{"1970-01-01T09:09", 549},
		{"1970-01-01T10:10", 610},
		{"1970-01-01T23:59", 1439},
		{"1970-01-02T00:00", 1440},
		{"1970-01-02T00:01", 1441},
		{"1999-12-31T23:59", 10957*1440 - 1},
		{"2000-02-29T19:48", 11016*1440 + 19*60 + 48},
		{"2024-02-29T12:34", 19782*1440 + 12*60 + 34},
		{"2026-11-16T23:59", 20773*1440 + 1439},
		{"3065-02-28T23:58", api.MaxTime - 1},
		{"3065-02-28T23:59", api.MaxTime},
	}
}

// wantMinutes reports an error unless Parse of text is n and OK.
func wantMinutes(t *testing.T, text string, n int) {
	t.Helper()
	if got, err := civil.Parse(text); got != n || err != api.OK {
		t.Errorf("Parse(%q) = %d, %d, not %d", text, got, err, n)
	}
}

// wantErrno reports an error unless Parse of text returns err.
func wantErrno(t *testing.T, text string, err api.Errno) {
	t.Helper()
	if n, got := civil.Parse(text); n != 0 || got != err {
		t.Errorf("Parse(%q) = %d, %d, not error %d", text, n, got, err)
	}
}

// wantText reports an error unless Format of minute is text and OK.
func wantText(t *testing.T, minute int, text string) {
	t.Helper()
	if got, err := civil.Format(minute); got != text || err != api.OK {
		t.Errorf("Format(%d) = %q, %d, not %q", minute, got, err, text)
	}
}

// P3.5 and P3.6: times by hand, among them the chapter's example 3.
func TestTexts(t *testing.T) {
	for _, x := range moments() {
		wantMinutes(t, x.text, x.minute)
		wantText(t, x.minute, x.text)
	}
}

// P3.5 and P3.6: every minute of a day, and every day.
func TestTextsOfEveryDay(t *testing.T) {
	for minute := range 1440 {
		n := 20773*1440 + minute
		wantMinutes(t, written(n), n)
		wantText(t, n, written(n))
	}
	for day := range api.MaxDay {
		n := day*1440 + day%1440
		wantMinutes(t, written(n), n)
		wantText(t, n, written(n))
	}
}

// P3.5: texts that do not have 16 bytes.
func TestParseRejectsOtherLengths(t *testing.T) {
	long := "1970-01-02T00:01" + strings.Repeat("0", 300)
	for n := range len(long) + 1 {
		if n != 16 {
			wantErrno(t, long[:n], api.ErrSyntax)
		}
	}
	for _, text := range []string{
		"1970-1-2T00:01", "1970-01-2T00:01", "970-01-02T00:01", "01970-01-02T00:01", "1970-01-02T00:01 ", " 1970-01-02T00:01", "1970-01-02T00:01\n",
		"1970-01-02T00:01Z", "1970-01-02T00:01:00", "@1970-01-02T00:01", "+1970-01-02T00:01", "-1970-01-02T00:01", "1970-01-02", "1970-01-02T", "T00:01",
		"1970-01-02T00:01\x00", "\x001970-01-02T00:01",
	} {
		wantErrno(t, text, api.ErrSyntax)
	}
}

// P3.5: every byte at every place of the form.
func TestParseOfEveryByte(t *testing.T) {
	const text = "2026-11-16T12:34"
	for i := range len(text) {
		for b := range 256 {
			other := text[:i] + string([]byte{byte(b)}) + text[i+1:]
			isDigit := '0' <= b && b <= '9'
			if other != text && (!isDigit || strings.Contains("-T:", text[i:i+1])) {
				wantErrno(t, other, api.ErrSyntax)
				continue
			}
			at, err := time.Parse(form, other)
			minute := int(at.Unix() / 60)
			if err == nil && 0 <= minute && minute <= api.MaxTime {
				wantMinutes(t, other, minute)
			} else {
				wantErrno(t, other, api.ErrRange)
			}
		}
	}
}

// P3.5: 16 bytes of another form, among them the chapter's example 3, and
// characters of several bytes.
func TestParseRejectsOtherForms(t *testing.T) {
	for _, text := range []string{
		"1970-1-2T00:01x", "1970-1-02T00:011", "1970-01-02 00:01", "1970-01-02t00:01", "1970/01/02T00:01", "1970-01-02T00.01", "1970-01-02T0001Z",
		"1970-01-02T00:+1", "1970-01-02T00:-1", "1970-01-02T+0:01", "1970-01-02T-1:01", "1970-01-+2T00:01", "1970-+1-02T00:01", "+970-01-02T00:01", "-970-01-02T00:01",
		"1970-01-02T00: 1", "1970-01- 2T00:01", "1_70-01-02T00:01", "0x70-01-02T00:01", "1e10-01-02T00:01", "01-02-1970T00:01", "1970-001-2T00:01", "YYYY-MM-DDThh:mm",
		"                ", "0000000000000000", "----------------", strings.Repeat("\x00", 16), strings.Repeat("\xff", 16), "1970-01-02T00:é", "1970-01-02T٠:01", "１970-01-02T0:0",
		"１９７０-０１-０２T００:０１", "1970‐01‐02T00:01",
	} {
		wantErrno(t, text, api.ErrSyntax)
	}
}

// P3.5: hours, minutes and dates that are out of range, alone.
func TestParseRejectsNumbersOutOfRange(t *testing.T) {
	two := func(n int) string { return string([]byte{byte('0' + n/10), byte('0' + n%10)}) }
	for n := range 100 {
		if n > 23 {
			wantErrno(t, "2026-11-16T"+two(n)+":34", api.ErrRange)
		}
		if n > 59 {
			wantErrno(t, "2026-11-16T12:"+two(n), api.ErrRange)
			wantErrno(t, "1970-01-01T00:"+two(n), api.ErrRange)
		}
		if n < 1 || n > 12 {
			wantErrno(t, "2026-"+two(n)+"-16T12:34", api.ErrRange)
		}
		if n < 1 || n > 30 {
			wantErrno(t, "2026-11-"+two(n)+"T12:34", api.ErrRange)
		}
	}
	for _, text := range []string{
		"2023-02-29T00:00", "2024-02-30T00:00", "2100-02-29T12:00", "2026-04-31T00:00", "2026-12-32T00:00", "2026-00-00T00:00", "0000-00-00T00:00",
		"1969-12-31T23:59", "1969-12-31T24:00", "1969-12-31T23:60", "0000-01-01T00:00", "0001-01-01T00:00", "1900-01-01T00:00",
		"2026-11-16T24:00", "2026-11-16T23:60", "2026-11-16T99:99", "9999-99-99T99:99",
	} {
		wantErrno(t, text, api.ErrRange)
	}
}

// P3.5: MaxDay is a date, but all of its times are greater than MaxTime.
func TestParseRejectsTimesAfterMaxTime(t *testing.T) {
	if n, ok := civil.Days(3065, 3, 1); n != api.MaxDay || !ok {
		t.Fatalf("Days(3065, 3, 1) = %d, %t", n, ok)
	}
	wantMinutes(t, "3065-02-28T23:59", api.MaxTime)
	for _, text := range []string{
		"3065-03-01T00:00", "3065-03-01T00:01", "3065-03-01T23:59", "3065-03-02T00:00", "3065-04-01T00:00", "3065-12-31T23:59", "3066-01-01T00:00", "3066-02-28T23:59", "9999-12-31T23:59",
		"3065-02-28T24:00", "3065-02-28T23:60", "3065-02-29T00:00",
	} {
		wantErrno(t, text, api.ErrRange)
	}
}

// P3.5: ErrSyntax comes before ErrRange, wherever in the text they are.
func TestParseOrdersItsErrors(t *testing.T) {
	const text = "9999-99-99T99:99"
	wantErrno(t, text, api.ErrRange)
	for i := range len(text) {
		wantErrno(t, text[:i]+"x"+text[i+1:], api.ErrSyntax)
		wantErrno(t, text[:i]+text[i+1:], api.ErrSyntax)
		wantErrno(t, text[:i]+"0"+text[i:], api.ErrSyntax)
	}
	for _, text := range []string{"1969-12-31T23:5x", "x969-12-31T23:59", "2026-11-16T24:0x", "2026-11-16T0x:60", "2023-02-29 00:00", "3065-03-01T00-00"} {
		wantErrno(t, text, api.ErrSyntax)
	}
}

// P3.6
func TestFormatRejectsOtherNumbers(t *testing.T) {
	for _, n := range []int{
		math.MinInt, math.MinInt + 1, -1 << 62, -1 << 32, math.MinInt32, -api.MaxTime, -1441, -1440, -60, -2, -1,
		api.MaxTime + 1, api.MaxTime + 2, api.MaxTime + 1440, api.MaxTime + 1441, math.MaxInt32, 1 << 32, 1<<32 + 1441, 1 << 62, math.MaxInt - 1, math.MaxInt,
	} {
		if text, err := civil.Format(n); text != "" || err != api.ErrRange {
			t.Errorf("Format(%d) = %q, %d", n, text, err)
		}
	}
}
