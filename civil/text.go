package civil

import "warehouse/api"

const (
	// pattern is the form YYYY-MM-DDThh:mm with a 0 for each digit.
	pattern        = "0000-00-00T00:00"
	hoursPerDay    = 24
	minutesPerHour = 60
	minutesPerDay  = hoursPerDay * minutesPerHour
)

// Parse returns the minutes since 1970-01-01T00:00 of a text of the form
// YYYY-MM-DDThh:mm. It returns ErrSyntax if the text does not have this form,
// and ErrRange if there is no such time up to MaxTime (P3.5).
func Parse(text string) (int, api.Errno) {
	if !hasForm(text) {
		return 0, api.ErrSyntax
	}
	hour, minute := number(text[11:13]), number(text[14:16])
	if hour >= hoursPerDay || minute >= minutesPerHour {
		return 0, api.ErrRange
	}
	days, ok := Days(number(text[0:4]), number(text[5:7]), number(text[8:10]))
	if !ok {
		return 0, api.ErrRange
	}
	// MaxDay is a date, but its times are greater than MaxTime.
	n := days*minutesPerDay + hour*minutesPerHour + minute
	if n > api.MaxTime {
		return 0, api.ErrRange
	}
	return n, api.OK
}

// Format returns the text of a number of minutes since 1970-01-01T00:00, or
// ErrRange if it is not from 0 to MaxTime (P3.6).
func Format(minute int) (string, api.Errno) {
	if minute < 0 || minute > api.MaxTime {
		return "", api.ErrRange
	}
	year, month, day, _ := Date(minute / minutesPerDay)
	text := []byte(pattern)
	putNumber(text[0:4], year)
	putNumber(text[5:7], month)
	putNumber(text[8:10], day)
	putNumber(text[11:13], minute/minutesPerHour%hoursPerDay)
	putNumber(text[14:16], minute%minutesPerHour)
	return string(text), api.OK
}

// hasForm reports whether text has a digit where pattern has one, pattern's
// own byte everywhere else, and no byte more.
func hasForm(text string) bool {
	if len(text) != len(pattern) {
		return false
	}
	for i := range len(pattern) {
		if pattern[i] == '0' {
			if text[i] < '0' || text[i] > '9' {
				return false
			}
		} else if text[i] != pattern[i] {
			return false
		}
	}
	return true
}

// number returns the number that digits write.
func number(digits string) int {
	n := 0
	for i := range len(digits) {
		n = n*10 + int(digits[i]-'0')
	}
	return n
}

// putNumber fills digits with the last digits of n, which is not negative.
func putNumber(digits []byte, n int) {
	for i := len(digits) - 1; i >= 0; i-- {
		digits[i] = byte('0' + n%10)
		n /= 10
	}
}
