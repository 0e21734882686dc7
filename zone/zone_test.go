package zone_test

import (
	"math"
	"slices"
	"testing"

	"warehouse/api"
	"warehouse/zone"
)

// shifted returns the zone with an offset and shifts, each of which is given
// by its At and its Offset.
func shifted(offset int, l ...int) api.Zone {
	z := api.Zone{Name: "z", Offset: offset}
	for pair := range slices.Chunk(l, 2) {
		z.Shifts = append(z.Shifts, api.Shift{At: pair[0], Offset: pair[1]})
	}
	return z
}

// full returns a zone with n shifts, one each step instants from first on, all
// with different offsets.
func full(n, first, step int) api.Zone {
	z := api.Zone{Offset: -1}
	for i := range n {
		z.Shifts = append(z.Shifts, api.Shift{At: first + i*step, Offset: i})
	}
	return z
}

// zones returns valid zones.
func zones() []api.Zone {
	return []api.Zone{
		{}, shifted(1), shifted(-1), shifted(60), shifted(-60), shifted(api.MaxOffset), shifted(-api.MaxOffset),
		shifted(120, 1400, 60), shifted(120, 1330, 0), shifted(0, 1440, 720),
		shifted(0, 1, 840), shifted(0, 1, -840), shifted(840, 1, -840), shifted(-840, 1, 840), shifted(60, 1, 60),
		shifted(840, api.MaxTime, -840), shifted(-840, api.MaxTime, 840), shifted(0, 1, -1, api.MaxTime-1, 1, api.MaxTime, 0),
		shifted(-840, 2100, 840), shifted(-840, 2280, 840, 2281, -840, 2282, 840), shifted(840, 600, -840, 2000, 0, 2001, -840),
		full(api.MaxShifts, 1, 1), full(api.MaxShifts, 1, 97), full(api.MaxShifts, 500, 1440), full(api.MaxShifts, api.MaxTime-63, 1),
	}
}

// numbers returns integers that are neither instants nor days, among them
// those that are both in 32 bits.
func numbers() []int {
	return []int{
		math.MinInt, math.MinInt + 1, -1 << 62, -1 << 32, math.MinInt32, -api.MaxTime, -api.MaxDay, -1440, -840, -1,
		api.MaxTime + 2, 1 << 30, math.MaxInt32, 1 << 32, 1<<32 + 1440, 1 << 62, math.MaxInt - 1, math.MaxInt,
	}
}

// wantErrno reports an error unless Validate of z returns err.
func wantErrno(t *testing.T, z api.Zone, err api.Errno) {
	t.Helper()
	if got := zone.Validate(z); got != err {
		t.Errorf("Validate(%v) = %d, not %d", z, got, err)
	}
}

// wantOffset reports an error unless Offset of z at the instant at is n and OK.
func wantOffset(t *testing.T, z api.Zone, at, n int) {
	t.Helper()
	if got, err := zone.Offset(z, at); got != n || err != api.OK {
		t.Errorf("Offset(%v, %d) = %d, %d, not %d", z, at, got, err, n)
	}
}

// P4.1: any name, offsets at the limits, and shifts at the first and the last
// place.
func TestValidateAccepts(t *testing.T) {
	for _, z := range zones() {
		for _, name := range []string{"", "berlin", "a.b", "any name", "\xff\x00", "\n"} {
			z.Name = name
			wantErrno(t, z, api.OK)
		}
		z.Shifts = append([]api.Shift{}, z.Shifts...)
		wantErrno(t, z, api.OK)
	}
}

// P4.1: the number of shifts comes first, whatever is wrong with them.
func TestValidateLimitsShifts(t *testing.T) {
	wantErrno(t, full(api.MaxShifts-1, 1, 1), api.OK)
	wantErrno(t, full(api.MaxShifts, 1, 1), api.OK)
	for _, n := range []int{api.MaxShifts + 1, api.MaxShifts + 2, 256, 257, 1 << 16} {
		wantErrno(t, full(n, 1, 1), api.ErrLimit)
		wantErrno(t, full(n, 0, 1), api.ErrLimit)
		wantErrno(t, full(n, 9, 0), api.ErrLimit)
		wantErrno(t, full(n, 1<<30, -1), api.ErrLimit)
		z := full(n, 1, 1)
		z.Offset = api.MaxOffset + 1
		wantErrno(t, z, api.ErrLimit)
	}
}

// offsets returns integers that are not offsets, among them those that are in
// 32 or 16 bits.
func offsets() []int {
	return []int{
		math.MinInt, math.MinInt + 1, -1 << 62, -1 << 32, math.MinInt32, -1 << 16, -api.MaxOffset - 2, -api.MaxOffset - 1,
		api.MaxOffset + 1, api.MaxOffset + 2, 1440, 1 << 16, math.MaxInt32, 1 << 32, 1<<32 + 60, 1 << 62, math.MaxInt - 1, math.MaxInt,
	}
}

// P4.1: the offset of the zone and those of its shifts.
func TestValidateLimitsOffsets(t *testing.T) {
	for n := -api.MaxOffset; n <= api.MaxOffset; n++ {
		wantErrno(t, shifted(n, 5, -n), api.OK)
	}
	for _, n := range offsets() {
		wantErrno(t, shifted(n), api.ErrRange)
		wantErrno(t, shifted(n, 5, 0), api.ErrRange)
		wantErrno(t, shifted(0, 5, n), api.ErrRange)
		wantErrno(t, shifted(0, 5, 60, 6, n), api.ErrRange)
		wantErrno(t, shifted(0, api.MaxTime, n), api.ErrRange)
	}
}

// P4.1: the instant of a shift, where the greatest numbers are not in order
// either.
func TestValidateLimitsInstants(t *testing.T) {
	for _, n := range append(numbers(), 0, api.MaxTime+1) {
		wantErrno(t, shifted(0, n, 0), api.ErrRange)
		wantErrno(t, shifted(0, n, 0, 5, 0), api.ErrRange)
		wantErrno(t, shifted(0, 5, 0, n, 0), api.ErrRange)
		wantErrno(t, shifted(0, 5, 0, 6, 0, n, 0), api.ErrRange)
	}
}

// P4.1: equal and falling shifts, next to each other or not.
func TestValidateOrdersShifts(t *testing.T) {
	wantErrno(t, shifted(0, 5, 0, 6, 0, 7, 0), api.OK)
	for _, z := range []api.Zone{
		shifted(0, 5, 0, 5, 0), shifted(0, 5, 0, 5, 60), shifted(0, 5, 0, 4, 0), shifted(0, 2, 0, 1, 0), shifted(0, 1, 0, 1, 0),
		shifted(0, api.MaxTime, 0, api.MaxTime, 0), shifted(0, api.MaxTime, 0, 1, 0), shifted(0, api.MaxTime, 0, api.MaxTime-1, 0),
		shifted(0, 5, 0, 7, 0, 7, 0), shifted(0, 5, 0, 7, 0, 6, 0), shifted(0, 7, 0, 5, 0, 6, 0), shifted(0, 5, 0, 9, 0, 5, 0),
		full(api.MaxShifts, 9, 0), full(api.MaxShifts, 99, -1),
	} {
		wantErrno(t, z, api.ErrOrder)
	}
}

// P4.1: the errors of a shift come before those of the next one, and its range
// before its order (R6).
func TestValidateOrdersErrors(t *testing.T) {
	for _, x := range []struct {
		z   api.Zone
		err api.Errno
	}{
		{shifted(841, 5, 0, 5, 0), api.ErrRange},
		{shifted(0, 5, 0, 5, 841), api.ErrRange},
		{shifted(0, 5, 0, 4, -841), api.ErrRange},
		{shifted(0, 5, 0, 0, 0), api.ErrRange},
		{shifted(0, 5, 0, 5, 0, 6, 841), api.ErrOrder},
		{shifted(0, 5, 0, 4, 0, 0, 0), api.ErrOrder},
		{shifted(0, 5, 0, 4, 0, api.MaxTime+1, 0), api.ErrOrder},
		{shifted(0, 5, 841, 5, 0), api.ErrRange},
		{shifted(0, 0, 0, 0, 0), api.ErrRange},
		{shifted(0, api.MaxTime+1, 0, api.MaxTime+1, 0), api.ErrRange},
	} {
		wantErrno(t, x.z, x.err)
	}
}

// P4.2: at each shift, and beside it.
func TestOffset(t *testing.T) {
	z := shifted(60, 100, 120, 200, -30, 201, 0)
	for _, x := range [][2]int{{0, 60}, {1, 60}, {99, 60}, {100, 120}, {101, 120}, {199, 120}, {200, -30}, {201, 0}, {202, 0}, {api.MaxTime - 1, 0}, {api.MaxTime, 0}} {
		wantOffset(t, z, x[0], x[1])
	}
	for _, at := range []int{0, 1, 1440, api.MaxTime} {
		wantOffset(t, api.Zone{}, at, 0)
		wantOffset(t, shifted(-api.MaxOffset), at, -api.MaxOffset)
		wantOffset(t, shifted(api.MaxOffset), at, api.MaxOffset)
	}
	ends := shifted(-840, 1, 7, api.MaxTime, 840)
	for _, x := range [][2]int{{0, -840}, {1, 7}, {2, 7}, {api.MaxTime - 1, 7}, {api.MaxTime, 840}} {
		wantOffset(t, ends, x[0], x[1])
	}
}

// P4.2: any number of shifts, up to MaxShifts.
func TestOffsetAmongManyShifts(t *testing.T) {
	for n := range api.MaxShifts + 1 {
		for _, step := range []int{1, 2, 1440, api.MaxTime / (api.MaxShifts + 1)} {
			z := full(n, step, step)
			for i := range n + 1 {
				wantOffset(t, z, i*step, i-1)
				wantOffset(t, z, (i+1)*step-1, i-1)
			}
			wantOffset(t, z, api.MaxTime, n-1)
		}
	}
}

// wantErrors reports an error unless each function returns err and zeros for
// the instant or day n.
func wantErrors(t *testing.T, z api.Zone, n int, err api.Errno) {
	t.Helper()
	if got, e := zone.Offset(z, n); got != 0 || e != err {
		t.Errorf("Offset(%v, %d) = %d, %d, not error %d", z, n, got, e, err)
	}
	if got, e := zone.Day(z, n); got != 0 || e != err {
		t.Errorf("Day(%v, %d) = %d, %d, not error %d", z, n, got, e, err)
	}
	if got, e := zone.Start(z, n); got != 0 || e != err {
		t.Errorf("Start(%v, %d) = %d, %d, not error %d", z, n, got, e, err)
	}
	if from, to, e := zone.Span(z, n); from != 0 || to != 0 || e != err {
		t.Errorf("Span(%v, %d) = %d, %d, %d, not error %d", z, n, from, to, e, err)
	}
}

// P4.2 to P4.4: the error of Validate comes before that of the other argument.
func TestErrorsOfTheZoneComeFirst(t *testing.T) {
	more := full(api.MaxShifts+1, 0, 0)
	more.Offset = math.MaxInt
	for _, n := range append(numbers(), 0, 1, 5, 1440, api.MaxDay, api.MaxDay+1, api.MaxDay+2, api.MaxTime, api.MaxTime+1) {
		wantErrors(t, more, n, api.ErrLimit)
		wantErrors(t, full(api.MaxShifts+1, 1, 1), n, api.ErrLimit)
		wantErrors(t, shifted(841), n, api.ErrRange)
		wantErrors(t, shifted(0, 0, 0), n, api.ErrRange)
		wantErrors(t, shifted(60, 5, 0, 5, 0), n, api.ErrOrder)
		wantErrors(t, shifted(60, 5, 0, 4, 0, 6, 841), n, api.ErrOrder)
	}
}

// P4.2 to P4.4: numbers that are neither instants nor days.
func TestErrorsOfNumbers(t *testing.T) {
	for _, z := range zones() {
		for _, n := range numbers() {
			wantErrors(t, z, n, api.ErrRange)
		}
	}
}

// P4.2 to P4.4: the last number of each function, and the one beyond it.
func TestLastNumbers(t *testing.T) {
	for _, z := range zones() {
		_, e := zone.Offset(z, api.MaxTime)
		_, f := zone.Day(z, api.MaxTime)
		_, g := zone.Start(z, api.MaxDay+1)
		_, _, h := zone.Span(z, api.MaxDay)
		if e != api.OK || f != api.OK || g != api.OK || h != api.OK {
			t.Errorf("%v: errors %d, %d, %d, %d", z, e, f, g, h)
		}
		wantErrors(t, z, api.MaxTime+1, api.ErrRange)
		if n, err := zone.Start(z, api.MaxDay+2); n != 0 || err != api.ErrRange {
			t.Errorf("Start(%v, MaxDay+2) = %d, %d", z, n, err)
		}
		if from, to, err := zone.Span(z, api.MaxDay+1); from != 0 || to != 0 || err != api.ErrRange {
			t.Errorf("Span(%v, MaxDay+1) = %d, %d, %d", z, from, to, err)
		}
	}
}

// R2: no function writes to the shifts or behind them.
func TestArgumentsStay(t *testing.T) {
	for _, z := range zones() {
		room := append(slices.Clone(z.Shifts), api.Shift{At: 3, Offset: 4}, api.Shift{At: 1, Offset: 2})
		before := slices.Clone(room)
		z.Shifts = room[:len(z.Shifts)]
		zone.Validate(z)
		for _, n := range []int{-1, 0, 1, 1440, api.MaxDay, api.MaxTime, math.MaxInt} {
			zone.Offset(z, n)
			zone.Day(z, n)
			zone.Start(z, n)
			zone.Span(z, n)
		}
		if !slices.Equal(room, before) {
			t.Errorf("%v was %v", room, before)
		}
	}
}
