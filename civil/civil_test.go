package civil_test

import (
	"math"
	"math/bits"
	"slices"
	"testing"
	"time"

	"warehouse/api"
	"warehouse/civil"
)

// The date of MaxDay.
const lastYear, lastMonth, lastDay = 3065, 3, 1

// instant returns the instant at which the day number days begins, as package
// time counts it.
func instant(days int) time.Time {
	return time.Unix(int64(days)*24*60*60, 0).UTC()
}

// lengthOf returns the number of days of a month as package time counts it.
func lengthOf(year, month int) int {
	return time.Date(year, time.Month(month+1), 0, 0, 0, 0, 0, time.UTC).Day()
}

// numbers returns integers that are neither day numbers nor parts of a date,
// among them those that are a date's in 32 bits.
func numbers() []int {
	return []int{
		math.MinInt, math.MinInt + 1, -1 << 62, math.MinInt32, -api.MaxDay - 1, -api.MaxDay, -1,
		api.MaxDay + 1, api.MaxDay + 2, 1 << 30, math.MaxInt32, 1 << 32, 1<<32 + 1, 1<<32 + 2, 1<<32 + 2024, 1 << 62, math.MaxInt - 1, math.MaxInt,
	}
}

// wantDays reports an error unless Days of the date is n and true.
func wantDays(t *testing.T, year, month, day, n int) {
	t.Helper()
	if got, ok := civil.Days(year, month, day); got != n || !ok {
		t.Errorf("Days(%d, %d, %d) = %d, %t, not %d", year, month, day, got, ok, n)
	}
}

// wantNoDays reports an error unless Days has no result.
func wantNoDays(t *testing.T, year, month, day int) {
	t.Helper()
	if n, ok := civil.Days(year, month, day); n != 0 || ok {
		t.Errorf("Days(%d, %d, %d) = %d, %t", year, month, day, n, ok)
	}
}

// dates returns dates with their day numbers; the last one is MaxDay.
func dates() [][4]int {
	return [][4]int{
		{1970, 1, 1, 0}, {1970, 1, 2, 1}, {1970, 1, 31, 30}, {1970, 2, 1, 31}, {1970, 2, 28, 58}, {1970, 3, 1, 59}, {1970, 12, 31, 364},
		{1971, 1, 1, 365}, {1972, 2, 28, 788}, {1972, 2, 29, 789}, {1972, 3, 1, 790}, {1972, 12, 31, 1095}, {1973, 1, 1, 1096},
		{2000, 2, 28, 11015}, {2000, 2, 29, 11016}, {2000, 3, 1, 11017}, {2000, 12, 31, 11322}, {2001, 1, 1, 11323},
		{2024, 2, 29, 19782}, {2026, 11, 16, 20773},
		{2100, 2, 28, 47540}, {2100, 3, 1, 47541}, {2100, 12, 31, 47846}, {2101, 1, 1, 47847},
		{2400, 2, 29, 157113}, {2400, 3, 1, 157114},
		{3065, 1, 1, 399941}, {3065, 2, 28, 399999}, {lastYear, lastMonth, lastDay, api.MaxDay},
	}
}

// P3.1 and P3.2: dates by hand, among them the chapter's example 1 (DOC.md's
// example 2).
func TestDates(t *testing.T) {
	for _, x := range dates() {
		wantDays(t, x[0], x[1], x[2], x[3])
		if year, month, day, ok := civil.Date(x[3]); year != x[0] || month != x[1] || day != x[2] || !ok {
			t.Errorf("Date(%d) = %d, %d, %d, %t", x[3], year, month, day, ok)
		}
	}
}

// P3.1 and P3.2: all dates there are.
func TestEveryDate(t *testing.T) {
	for n := range api.MaxDay + 1 {
		y, m, d := instant(n).Date()
		wantDays(t, y, int(m), d, n)
		if year, month, day, ok := civil.Date(n); year != y || month != int(m) || day != d || !ok {
			t.Fatalf("Date(%d) = %d, %d, %d, %t, not %d, %d, %d", n, year, month, day, ok, y, m, d)
		}
	}
}

// P3.1: months 0 and 13 of every year, and days before and after every month.
func TestDaysRejectsDatesThatDoNotExist(t *testing.T) {
	for year := 1968; year <= lastYear+1; year++ {
		for month := 1; month <= 12; month++ {
			for _, day := range []int{-31, -1, 0, lengthOf(year, month) + 1, 32, 256, 366} {
				wantNoDays(t, year, month, day)
			}
		}
		for _, month := range []int{-12, -11, -1, 0, 13, 14, 24, 25, 256} {
			for _, day := range []int{0, 1, 28, 31} {
				wantNoDays(t, year, month, day)
			}
		}
	}
}

// P3.1: February 29 exists if the year is divisible by 4, but not by 100, or
// divisible by 400. The chapter's example 1.
func TestLeapYears(t *testing.T) {
	for _, year := range []int{1972, 1996, 2000, 2004, 2024, 2096, 2104, 2400, 2800, 3064} {
		if _, ok := civil.Days(year, 2, 29); !ok {
			t.Errorf("February 29 of %d does not exist", year)
		}
		wantNoDays(t, year, 2, 30)
	}
	for _, year := range []int{1971, 1973, 1974, 2001, 2002, 2023, 2025, 2100, 2200, 2300, 2500, 2600, 2700, 2900, 3000, 3065} {
		wantNoDays(t, year, 2, 29)
	}
}

// P3.1: dates that exist, but have no day number from 0 to MaxDay.
func TestDaysRejectsDatesOutOfRange(t *testing.T) {
	for _, x := range [][3]int{
		{1969, 12, 31}, {1969, 12, 1}, {1969, 1, 1}, {1968, 2, 29}, {1900, 1, 1}, {1, 1, 1}, {0, 1, 1}, {-1, 12, 31}, {-2024, 2, 1},
		{lastYear, lastMonth, lastDay + 1}, {lastYear, lastMonth, 31}, {lastYear, lastMonth + 1, 1}, {lastYear, 12, 31},
		{lastYear + 1, 1, 1}, {lastYear + 1, 3, 1}, {3100, 1, 1}, {9999, 12, 31}, {1 << 31, 1, 1}, {1 << 40, 6, 15},
	} {
		wantNoDays(t, x[0], x[1], x[2])
	}
}

// P3.1: any int as any part of a date, also those that wrap around to a date.
func TestDaysRejectsLargeArguments(t *testing.T) {
	for _, n := range numbers() {
		for _, x := range dates() {
			wantNoDays(t, n, x[1], x[2])
			wantNoDays(t, x[0], n, x[2])
			wantNoDays(t, x[0], x[1], n)
		}
		for _, k := range numbers() {
			wantNoDays(t, n, k, 1)
			wantNoDays(t, n, 1, k)
			wantNoDays(t, 2024, n, k)
			wantNoDays(t, n, n, k)
		}
	}
}

// P3.1: years so large that the days before them wrap around to the day number
// of a date.
func TestDaysRejectsYearsThatWrapAround(t *testing.T) {
	const days = 146097 // of 400 years
	for turns := uint64(1); turns <= 100; turns++ {
		// So many times 400 years are a little longer than turns times 2^64
		// days.
		k, _ := bits.Div64(turns, 0, days)
		years := 400 * int(k+1)
		wantNoDays(t, 2000+years, 1, 1)
		wantNoDays(t, 2000+years, 2, 29)
		wantNoDays(t, 2000-years, 1, 1)
		wantNoDays(t, 2800-years, 2, 29)
	}
}

// P3.2
func TestDateRejectsOtherNumbers(t *testing.T) {
	for _, n := range numbers() {
		if year, month, day, ok := civil.Date(n); year != 0 || month != 0 || day != 0 || ok {
			t.Errorf("Date(%d) = %d, %d, %d, %t", n, year, month, day, ok)
		}
	}
}

// P3.3
func TestWeekday(t *testing.T) {
	for _, x := range [][2]int{
		{0, 3}, {1, 4}, {2, 5}, {3, 6}, {4, 0}, {5, 1}, {6, 2}, {7, 3}, {11016, 1}, {20772, 6}, {20773, 0}, {20776, 3}, {api.MaxDay, 2},
	} {
		if w := civil.Weekday(x[0]); w != x[1] {
			t.Errorf("Weekday(%d) = %d, not %d", x[0], w, x[1])
		}
	}
}

// P3.3: all days there are.
func TestWeekdayOfEveryDay(t *testing.T) {
	for n := range api.MaxDay + 1 {
		// Package time counts from 0 for Sunday.
		if w := civil.Weekday(n); w != (int(instant(n).Weekday())+6)%7 {
			t.Fatalf("Weekday(%d) = %d", n, w)
		}
	}
}

// P3.3
func TestWeekdayRejectsOtherNumbers(t *testing.T) {
	for _, n := range slices.Concat(numbers(), []int{-2, -3, -4, -5, -6, -7}) {
		if w := civil.Weekday(n); w != -1 {
			t.Errorf("Weekday(%d) = %d", n, w)
		}
	}
}

// at returns the day number of a date that exists.
func at(t *testing.T, year, month, day int) int {
	t.Helper()
	n, ok := civil.Days(year, month, day)
	if !ok {
		t.Fatalf("Days(%d, %d, %d) has no result", year, month, day)
	}
	return n
}

// wantMonths reports an error unless AddMonths(days, n) is sum and true.
func wantMonths(t *testing.T, days, n, sum int) {
	t.Helper()
	if got, ok := civil.AddMonths(days, n); got != sum || !ok {
		t.Errorf("AddMonths(%d, %d) = %d, %t, not %d", days, n, got, ok, sum)
	}
}

// wantNoMonths reports an error unless AddMonths(days, n) has no result.
func wantNoMonths(t *testing.T, days, n int) {
	t.Helper()
	if got, ok := civil.AddMonths(days, n); got != 0 || ok {
		t.Errorf("AddMonths(%d, %d) = %d, %t", days, n, got, ok)
	}
}

// P3.4: months by hand; the first two are the chapter's example 2.
func TestAddMonths(t *testing.T) {
	for _, x := range []struct {
		from [3]int
		n    int
		to   [3]int
	}{
		{[3]int{2024, 1, 31}, 1, [3]int{2024, 2, 29}},
		{[3]int{2024, 1, 31}, 13, [3]int{2025, 2, 28}},
		{[3]int{2024, 5, 5}, 0, [3]int{2024, 5, 5}},
		{[3]int{2024, 5, 31}, 0, [3]int{2024, 5, 31}},
		{[3]int{2024, 1, 15}, 1, [3]int{2024, 2, 15}},
		{[3]int{2024, 11, 5}, 1, [3]int{2024, 12, 5}},
		{[3]int{2024, 12, 5}, 1, [3]int{2025, 1, 5}},
		{[3]int{2024, 12, 31}, 1, [3]int{2025, 1, 31}},
		{[3]int{2024, 12, 31}, 2, [3]int{2025, 2, 28}},
		{[3]int{2024, 1, 5}, 11, [3]int{2024, 12, 5}},
		{[3]int{2024, 1, 5}, 12, [3]int{2025, 1, 5}},
		{[3]int{2024, 1, 30}, 1, [3]int{2024, 2, 29}},
		{[3]int{2024, 1, 29}, 1, [3]int{2024, 2, 29}},
		{[3]int{2023, 1, 29}, 1, [3]int{2023, 2, 28}},
		{[3]int{2023, 1, 28}, 1, [3]int{2023, 2, 28}},
		{[3]int{2024, 3, 31}, 1, [3]int{2024, 4, 30}},
		{[3]int{2024, 4, 30}, 1, [3]int{2024, 5, 30}},
		{[3]int{2024, 2, 29}, 1, [3]int{2024, 3, 29}},
		{[3]int{2024, 2, 29}, 12, [3]int{2025, 2, 28}},
		{[3]int{2024, 2, 29}, 48, [3]int{2028, 2, 29}},
		{[3]int{2096, 2, 29}, 48, [3]int{2100, 2, 28}},
		{[3]int{2000, 1, 31}, 1201, [3]int{2100, 2, 28}},
		{[3]int{2000, 1, 31}, 4801, [3]int{2400, 2, 29}},
		{[3]int{2024, 3, 31}, -1, [3]int{2024, 2, 29}},
		{[3]int{2024, 1, 5}, -1, [3]int{2023, 12, 5}},
		{[3]int{2024, 1, 31}, -2, [3]int{2023, 11, 30}},
		{[3]int{2024, 12, 5}, -11, [3]int{2024, 1, 5}},
		{[3]int{2024, 12, 5}, -12, [3]int{2023, 12, 5}},
		{[3]int{2024, 2, 29}, -12, [3]int{2023, 2, 28}},
		{[3]int{2024, 2, 29}, -13, [3]int{2023, 1, 29}},
		{[3]int{2024, 5, 31}, -14, [3]int{2023, 3, 31}},
		{[3]int{3065, 3, 1}, -13142, [3]int{1970, 1, 1}},
	} {
		from, to := at(t, x.from[0], x.from[1], x.from[2]), at(t, x.to[0], x.to[1], x.to[2])
		wantMonths(t, from, x.n, to)
	}
}

// P3.4: the first and the last results, and those one day or month beyond
// them.
func TestAddMonthsNextToTheLimits(t *testing.T) {
	wantMonths(t, 0, 0, 0)
	wantMonths(t, 31, -1, 0)
	wantMonths(t, at(t, 1970, 12, 31), -11, 30)
	wantMonths(t, at(t, 1971, 1, 1), -12, 0)
	for days := range 31 {
		for _, n := range []int{-1, -2, -11, -12, -13, -24} {
			wantNoMonths(t, days, n)
		}
	}
	wantNoMonths(t, 364, -12)
	wantNoMonths(t, at(t, 2024, 1, 1), -54*12-1)
	wantMonths(t, at(t, 2024, 1, 1), -54*12, 0)
	wantMonths(t, api.MaxDay, 0, api.MaxDay)
	wantMonths(t, at(t, 3065, 2, 1), 1, api.MaxDay)
	wantNoMonths(t, at(t, 3065, 2, 2), 1)
	wantMonths(t, at(t, 3065, 1, 31), 1, api.MaxDay-1)
	wantMonths(t, at(t, 3064, 12, 1), 3, api.MaxDay)
	wantNoMonths(t, at(t, 3064, 12, 2), 3)
	wantNoMonths(t, at(t, 3064, 12, 1), 4)
	wantMonths(t, 0, 13142, api.MaxDay)
	wantNoMonths(t, 0, 13143)
	wantNoMonths(t, 1, 13142)
	wantNoMonths(t, api.MaxDay, 1)
	wantNoMonths(t, api.MaxDay, 12)
	wantMonths(t, api.MaxDay, -1, at(t, 3065, 2, 1))
}

// P3.4: the definition, for every 23rd day, small numbers of months and large
// ones.
func TestAddMonthsByItsDefinition(t *testing.T) {
	ns := []int{-20000, -13142, -4800, -1201, 1201, 4800, 13142, 20000}
	for n := -26; n <= 26; n++ {
		ns = append(ns, n)
	}
	for days := 0; days <= api.MaxDay; days += 23 {
		y, m, d := instant(days).Date()
		for _, n := range ns {
			first := time.Date(y, m+time.Month(n), 1, 0, 0, 0, 0, time.UTC)
			day := min(d, lengthOf(first.Year(), int(first.Month())))
			sum := int(first.Unix()/(24*60*60)) + day - 1
			if first.Year() >= 1970 && sum <= api.MaxDay {
				wantMonths(t, days, n, sum)
			} else {
				wantNoMonths(t, days, n)
			}
		}
	}
}

// P3.4: arguments that are out of range, also those that wrap around to a
// date, and the greatest numbers of months that are not.
func TestAddMonthsRejectsOtherNumbers(t *testing.T) {
	for _, n := range numbers() {
		for _, k := range slices.Concat(numbers(), []int{0, 1, -1, 12, -12, api.MaxDay, 13142}) {
			wantNoMonths(t, n, k)
		}
	}
	for _, n := range []int{
		math.MinInt, math.MinInt + 1, math.MinInt + 12, -1 << 62, -1 << 32, -1<<32 - 12, math.MinInt32, -api.MaxDay - 1, -api.MaxDay, 1 - api.MaxDay,
		api.MaxDay - 1, api.MaxDay, api.MaxDay + 1, math.MaxInt32, 1 << 32, 1<<32 + 12, 1 << 62, math.MaxInt - 12, math.MaxInt - 1, math.MaxInt,
	} {
		for _, days := range []int{0, 1, 30, 31, 364, 365, 20773, api.MaxDay - 1, api.MaxDay} {
			wantNoMonths(t, days, n)
		}
	}
}
