package zone_test

import (
	"math"
	"slices"
	"testing"

	"warehouse/api"
	"warehouse/zone"
)

// wantDay reports an error unless Day of z at the instant at is n and OK.
func wantDay(t *testing.T, z api.Zone, at, n int) {
	t.Helper()
	if got, err := zone.Day(z, at); got != n || err != api.OK {
		t.Errorf("Day(%v, %d) = %d, %d, not %d", z, at, got, err, n)
	}
}

// wantStart reports an error unless Start of day is n and OK.
func wantStart(t *testing.T, z api.Zone, day, n int) {
	t.Helper()
	if got, err := zone.Start(z, day); got != n || err != api.OK {
		t.Errorf("Start(%v, %d) = %d, %d, not %d", z, day, got, err, n)
	}
}

// wantSpan reports an error unless Span of day is from, to and OK, and Start
// agrees with it.
func wantSpan(t *testing.T, z api.Zone, day, from, to int) {
	t.Helper()
	if a, b, err := zone.Span(z, day); a != from || b != to || err != api.OK {
		t.Errorf("Span(%v, %d) = %d, %d, %d, not %d, %d", z, day, a, b, err, from, to)
	}
	wantStart(t, z, day, from)
	wantStart(t, z, day+1, to)
}

// P4.3 and P4.4: the chapter's examples.
func TestExamples(t *testing.T) {
	z := shifted(60)
	wantDay(t, z, 1379, 0)
	wantDay(t, z, 1380, 1)
	wantSpan(t, z, 1, 1380, 2820)
	z = shifted(120, 1400, 60)
	wantDay(t, z, 1399, 1)
	wantDay(t, z, 1400, 1)
	z = shifted(120, 1330, 0)
	wantDay(t, z, 1329, 1)
	wantDay(t, z, 1330, 1)
	z = shifted(0, 1440, 720)
	wantSpan(t, z, 1, 1440, 2160)
}

// P4.3 and P4.4: the clock goes back from 00:30 to 23:30 (DOC.md's example 3).
func TestRepeatedHalfHour(t *testing.T) {
	const midnight = 20773*1440 - 120
	z := shifted(120, midnight+30, 60)
	wantDay(t, z, midnight-1, 20772)
	for at := midnight; at < midnight+1440+60; at++ {
		wantDay(t, z, at, 20773)
	}
	wantDay(t, z, midnight+1440+60, 20774)
	wantSpan(t, z, 20772, midnight-1440, midnight)
	wantSpan(t, z, 20773, midnight, midnight+1440+60)
	// At midnight itself the clock has not shown the later day yet.
	z = shifted(120, midnight, 60)
	wantDay(t, z, midnight, 20772)
	wantSpan(t, z, 20772, midnight-1440, midnight+60)
}

// P4.3 and P4.4: clocks that are set forward to midnight, across it, and
// across a whole day.
func TestClockSetForward(t *testing.T) {
	wantSpan(t, shifted(0, 1380, 60), 0, 0, 1380)
	wantSpan(t, shifted(0, 1380, 59), 0, 0, 1381)
	wantSpan(t, shifted(0, 1400, 60), 0, 0, 1400)
	wantSpan(t, shifted(0, 1400, 60), 1, 1400, 2820)
	skips := shifted(-840, 2100, 840)
	wantDay(t, skips, 2099, 0)
	wantDay(t, skips, 2100, 2)
	wantSpan(t, skips, 0, 0, 2100)
	wantSpan(t, skips, 1, 2100, 2100)
	wantSpan(t, skips, 2, 2100, 3480)
	// One minute before, or one minute less, the clock stops in the day between.
	wantSpan(t, shifted(-840, 2039, 840), 1, 2039, 2040)
	wantSpan(t, shifted(-840, 2279, 600), 1, 2279, 2280)
	wantSpan(t, shifted(-840, 2279, 601), 1, 2279, 2279)
}

// P4.3: the greatest local day may be that of any earlier instant, and not only
// that of the last shift.
func TestDayIsThatOfTheGreatestLocalDay(t *testing.T) {
	z := shifted(840, 601, -840, 602, 0, 603, -840, 3719, -839)
	wantDay(t, z, 599, 0)
	for at := 600; at < 3719; at++ {
		wantDay(t, z, at, 1)
	}
	wantDay(t, z, 3719, 2)
	wantSpan(t, z, 0, 0, 600)
	wantSpan(t, z, 1, 600, 3719)
	z = shifted(840, 2041, -840)
	wantSpan(t, z, 1, 600, 2040)
	wantSpan(t, z, 2, 2040, 5160)
}

// P4.3 and P4.4: no day is negative, however long the first local day is over.
func TestFirstDay(t *testing.T) {
	for offset := -api.MaxOffset; offset <= api.MaxOffset; offset++ {
		z := shifted(offset)
		wantDay(t, z, 0, 0)
		wantDay(t, z, 1439-offset, 0)
		wantSpan(t, z, 0, 0, 1440-offset)
		wantSpan(t, z, 1, 1440-offset, 2880-offset)
	}
	wantDay(t, shifted(-1), 0, 0)
	wantDay(t, shifted(-840), 839, 0)
	wantDay(t, shifted(-840), 840, 0)
	wantDay(t, shifted(0, 1, -840), 1, 0)
}

// P4.3 and P4.4: the days around MaxDay, which only some zones reach.
func TestLastDay(t *testing.T) {
	const end = api.MaxTime + 1
	for offset := -api.MaxOffset; offset <= api.MaxOffset; offset++ {
		z, last := shifted(offset), api.MaxDay-1
		if offset > 0 {
			last = api.MaxDay
		}
		wantDay(t, z, api.MaxTime, last)
		wantStart(t, z, last, last*1440-offset)
		for day := last + 1; day <= api.MaxDay; day++ {
			wantSpan(t, z, day, end, end)
		}
		wantStart(t, z, api.MaxDay+1, end)
	}
	wantSpan(t, shifted(0), api.MaxDay-1, end-1440, end)
	wantSpan(t, shifted(840), api.MaxDay, end-840, end)
	wantSpan(t, shifted(1), api.MaxDay, api.MaxTime, end)
	wantSpan(t, shifted(0, api.MaxTime, 1), api.MaxDay, api.MaxTime, end)
	wantSpan(t, shifted(-840, api.MaxTime, 840), api.MaxDay-1, end-600, api.MaxTime)
	wantSpan(t, shifted(840, api.MaxTime, -840), api.MaxDay, end-840, end)
	wantSpan(t, shifted(1, api.MaxTime, 0), api.MaxDay, end, end)
}

// reference is what the chapter's definitions say of a zone whose shifts are
// all after the instant from: the offset and the day of each instant from from
// on.
type reference struct {
	from          int
	offsets, days []int
}

// localDay is the chapter's local day number.
func localDay(at, offset int) int {
	return int(math.Floor(float64(at+offset) / 1440))
}

// refer returns the reference for n instants.
func refer(z api.Zone, from, n int) reference {
	r := reference{from: from}
	// All instants before from have the same offset, so that the last one has
	// the greatest local day number.
	greatest := max(0, localDay(from-1, z.Offset))
	for at := from; at < from+n; at++ {
		offset := z.Offset
		for _, s := range z.Shifts {
			if s.At <= at {
				offset = s.Offset
			}
		}
		greatest = max(greatest, localDay(at, offset))
		r.offsets, r.days = append(r.offsets, offset), append(r.days, greatest)
	}
	return r
}

// start returns the first instant of the reference whose day is at least day.
func (r reference) start(day int) (int, bool) {
	i := slices.IndexFunc(r.days, func(n int) bool { return n >= day })
	return r.from + i, i >= 0
}

// compare reports an error for each instant and day for which the functions
// and the reference differ.
func compare(t *testing.T, z api.Zone, r reference) {
	t.Helper()
	for i, day := range r.days {
		wantOffset(t, z, r.from+i, r.offsets[i])
		wantDay(t, z, r.from+i, day)
	}
	for day := r.days[0] + 1; day < r.days[len(r.days)-1]; day++ {
		from, _ := r.start(day)
		to, _ := r.start(day + 1)
		wantSpan(t, z, day, from, to)
	}
}

// sequence is a simple sequence of numbers without a pattern.
type sequence uint64

// below returns the next number, from 0 to n - 1.
func (s *sequence) below(n int) int {
	*s = *s*6364136223846793005 + 1442695040888963407
	return int(uint64(*s)>>33) % n
}

// scattered returns a zone with up to n shifts within length instants after
// from, whose offsets are up to most.
func scattered(s *sequence, n, from, length, most int) api.Zone {
	offset := func() int { return s.below(2*most+1) - most }
	z := api.Zone{Offset: offset()}
	at := from
	for range n {
		at += 1 + s.below(2*length/(n+1))
		if at < from+length {
			z.Shifts = append(z.Shifts, api.Shift{At: at, Offset: offset()})
		}
	}
	return z
}

// P4.2 to P4.4: the first instants of many zones, one by one.
func TestFirstInstantsAgainstTheDefinitions(t *testing.T) {
	const length = 6000
	for _, z := range zones() {
		compare(t, z, refer(z, 0, length))
		wantStart(t, z, 0, 0)
	}
	var s sequence
	for i := range 200 {
		z := scattered(&s, i%9, 0, length, []int{60, 300, api.MaxOffset}[i%3])
		compare(t, z, refer(z, 0, length))
	}
	z := scattered(&s, api.MaxShifts, 0, 8*length, api.MaxOffset)
	compare(t, z, refer(z, 0, 8*length))
}

// P4.2 to P4.4: the last instants of many zones, one by one, and the days that
// none of them reaches.
func TestLastInstantsAgainstTheDefinitions(t *testing.T) {
	const length = 6000
	s := sequence(1)
	for i := range 200 {
		from := api.MaxTime + 1 - length
		z := scattered(&s, i%9, from, length, []int{60, 300, api.MaxOffset}[i%3])
		r := refer(z, from, length)
		compare(t, z, r)
		for day := r.days[length-1] + 1; day <= api.MaxDay+1; day++ {
			wantStart(t, z, day, api.MaxTime+1)
		}
	}
}

// P4.4: the spans of all days follow each other and contain every instant, and
// Day agrees with them.
func TestEveryDay(t *testing.T) {
	s := sequence(2)
	for _, z := range []api.Zone{shifted(60), scattered(&s, 5, 0, api.MaxTime, api.MaxOffset)} {
		next := 0
		for day := range api.MaxDay + 1 {
			from, to, err := zone.Span(z, day)
			if from != next || to < from || err != api.OK {
				t.Fatalf("Span(%v, %d) = %d, %d, %d, not from %d", z, day, from, to, err, next)
			}
			if from < to {
				wantDay(t, z, from, day)
				wantDay(t, z, to-1, day)
			}
			next = to
		}
		if next != api.MaxTime+1 {
			t.Errorf("the days of %v end at %d", z, next)
		}
	}
}
