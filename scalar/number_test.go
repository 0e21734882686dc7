package scalar_test

import (
	"math/big"
	"testing"

	"warehouse/api"
	"warehouse/scalar"
	"warehouse/zone"
)

// ends returns integers, in ascending order: those at the ends, those around 0,
// and those whose squares are close to MaxInt.
func ends() []int {
	return []int{
		-api.MaxInt, -api.MaxInt + 1, -api.MaxInt + 2, -api.MaxInt/2 - 1, -api.MaxInt / 2, -api.MaxInt/2 + 1, -32769, -32768, -32767, -10, -9, -7, -3, -2, -1,
		0, 1, 2, 3, 7, 9, 10, 32767, 32768, 32769, api.MaxInt/2 - 1, api.MaxInt / 2, api.MaxInt/2 + 1, api.MaxInt - 2, api.MaxInt - 1, api.MaxInt,
	}
}

// integer returns n as a value, or null if n is too large for one.
func integer(n *big.Int) api.Value {
	if n.CmpAbs(big.NewInt(api.MaxInt)) > 0 {
		return null
	}
	return number(int(n.Int64()))
}

// quotient returns a / b and the remainder, by the definition of chapter 2.
func quotient(a, b int) (q, r *big.Int) {
	q, r = big.NewInt(int64(a)), new(big.Int)
	divisor := big.NewInt(int64(b))
	if b < 0 {
		q.Neg(q)
		divisor.Neg(divisor)
	}
	// For a positive divisor this division rounds down.
	q.Div(q, divisor)
	r.Sub(big.NewInt(int64(a)), r.Mul(big.NewInt(int64(b)), q))
	return q, r
}

// P9.3: sums, differences, products, quotients and remainders of integers at
// the ends, and by 0.
func TestIntegers(t *testing.T) {
	for _, a := range ends() {
		x, v := big.NewInt(int64(a)), number(a)
		wantResult(t, op(api.OpNegate), number(-a), v)
		for _, b := range ends() {
			y, w := big.NewInt(int64(b)), number(b)
			wantResult(t, op(api.OpAdd), integer(new(big.Int).Add(x, y)), v, w)
			wantResult(t, op(api.OpSubtract), integer(new(big.Int).Sub(x, y)), v, w)
			wantResult(t, op(api.OpMultiply), integer(new(big.Int).Mul(x, y)), v, w)
			if b == 0 {
				wantResult(t, op(api.OpDivide), null, v, w)
				wantResult(t, op(api.OpModulo), null, v, w)
				continue
			}
			q, r := quotient(a, b)
			wantResult(t, op(api.OpDivide), integer(q), v, w)
			wantResult(t, op(api.OpModulo), integer(r), v, w)
		}
	}
}

// P9.3: times plus and minus integers, from 0 to MaxTime and beyond, and times
// minus times.
func TestTimes(t *testing.T) {
	times := []int{0, 1, 2, 1439, 1440, api.MaxTime / 2, api.MaxTime - 1440, api.MaxTime - 1, api.MaxTime}
	steps := append(ends(), 1439, 1440, 1441, api.MaxTime-1, api.MaxTime, api.MaxTime+1, -api.MaxTime-1, -api.MaxTime, -api.MaxTime+1)
	for _, a := range times {
		for _, n := range times {
			steps = append(steps, n-a, a-n)
			wantResult(t, op(api.OpSubtract), number(a-n), moment(a), moment(n))
		}
		for _, n := range steps {
			wantResult(t, op(api.OpAdd), instant(a+n), moment(a), number(n))
			wantResult(t, op(api.OpSubtract), instant(a-n), moment(a), number(n))
		}
		for _, past := range []int{-1, api.MaxTime + 1} {
			wantResult(t, op(api.OpAdd), null, moment(a), number(past-a))
			wantResult(t, op(api.OpSubtract), null, moment(a), number(a-past))
		}
	}
}

// instant returns the time n, or null if there is none.
func instant(n int) api.Value {
	if n < 0 || n > api.MaxTime {
		return null
	}
	return moment(n)
}

// wantDay reports an error unless OpDay of the instant n has this value, in the
// zone that is called x.
func wantDay(t *testing.T, z api.Zone, n, want int) {
	t.Helper()
	z.Name = "x"
	e := apply(day("x"), column("at"))
	l, row := []api.Column{required("at", api.Time)}, []api.Value{moment(n)}
	if v, err := scalar.Eval(e, l, row, []api.Zone{{Name: "w"}, z, {Name: "x", Offset: 840}}); v != number(want) || err != api.OK {
		t.Errorf("the day of %d in %v is %v, %d, not %d", n, z, v, err, want)
	}
}

// P9.3: days at the shifts of zones, and at the ends of time.
func TestDays(t *testing.T) {
	wantDay(t, api.Zone{Offset: 60}, 1379, 0)
	wantDay(t, api.Zone{Offset: 60}, 1380, 1)
	wantDay(t, api.Zone{Offset: -api.MaxOffset}, 0, 0)
	wantDay(t, api.Zone{Offset: api.MaxOffset}, api.MaxTime, api.MaxDay)
	wantDay(t, api.Zone{}, api.MaxTime, api.MaxDay-1)
	back := api.Zone{Offset: 120, Shifts: []api.Shift{{At: 1330}}}
	wantDay(t, back, 1319, 0)
	wantDay(t, back, 1329, 1)
	wantDay(t, back, 1330, 1)
	on := api.Zone{Shifts: []api.Shift{{At: 1440, Offset: 720}}}
	wantDay(t, on, 1439, 0)
	wantDay(t, on, 2159, 1)
	wantDay(t, on, 2160, 2)
	skips := api.Zone{Offset: -api.MaxOffset, Shifts: []api.Shift{{At: 1000, Offset: api.MaxOffset}, {At: 3000, Offset: -60}, {At: api.MaxTime, Offset: api.MaxOffset}}}
	for _, z := range []api.Zone{back, on, skips} {
		for _, middle := range []int{1000, 1330, 1440, 2160, 3000, api.MaxTime - 5} {
			for n := middle - 5; n <= middle+5; n++ {
				want, _ := zone.Day(z, n)
				wantDay(t, z, n, want)
			}
		}
	}
}

// P9.3: of zones with one name the first one counts, wherever they are.
func TestFirstZoneCounts(t *testing.T) {
	early, late := api.Zone{Name: "x", Offset: -60}, api.Zone{Name: "x", Offset: 60}
	other := api.Zone{Name: "core.x", Offset: 840}
	s := "day(@1970-01-01T23:30, x)"
	wantZones(t, s, []api.Zone{early, late}, number(0))
	wantZones(t, s, []api.Zone{late, early}, number(1))
	wantZones(t, s, []api.Zone{other, early, other, late, late}, number(0))
	wantZones(t, s, []api.Zone{other, late, other, early, early}, number(1))
	wantZones(t, "day(@1970-01-01T10:00, core.x)", []api.Zone{early, late, other, {Name: "core.x"}}, number(1))
}
