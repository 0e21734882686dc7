package exact_test

import (
	"math"
	"math/big"
	"slices"
	"testing"

	"warehouse/api"
	"warehouse/exact"
)

const most = api.MaxInt

// smalls returns small integers in ascending order: those around 0, around the
// square root of MaxInt, and at the limits.
func smalls() []int {
	var l []int
	for n := range 41 {
		l = append(l, n-20)
	}
	for _, n := range []int{97, 1000, 1<<15 - 1, 1 << 15, 1<<15 + 1, 1<<16 - 1, 1 << 16, most / 3, most/2 - 1, most / 2, most/2 + 1, most - 2, most - 1, most} {
		l = append(l, n, -n)
	}
	slices.Sort(l)
	return l
}

// larges returns integers that are not small, among them those whose sums and
// products wrap around.
func larges() []int {
	return []int{
		math.MinInt, math.MinInt + 1, -1 << 62, -1 << 32, -most - 2, -most - 1,
		most + 1, most + 2, 1 << 31, 1 << 32, 1<<32 + 1, 1 << 62, math.MaxInt - 1, math.MaxInt,
	}
}

// operation is a function of two integers, with one that computes the same
// without limits.
type operation struct {
	name      string
	f         func(a, b int) (int, bool)
	unlimited func(z, a, b *big.Int) *big.Int
}

func sums() []operation {
	return []operation{
		{"Add", exact.Add, (*big.Int).Add},
		{"Subtract", exact.Subtract, (*big.Int).Sub},
		{"Multiply", exact.Multiply, (*big.Int).Mul},
	}
}

// divisions returns the operations that the tests compare with their
// definition instead.
func divisions() []operation {
	return []operation{
		{name: "Divide", f: exact.Divide},
		{name: "Modulo", f: exact.Modulo},
	}
}

// wantNumber reports an error unless f of a and b is n and ok.
func wantNumber(t *testing.T, name string, f func(a, b int) (int, bool), a, b, n int, ok bool) {
	t.Helper()
	if got, is := f(a, b); got != n || is != ok {
		t.Errorf("%s(%d, %d) = %d, %t, not %d, %t", name, a, b, got, is, n, ok)
	}
}

// P2.1: examples, and the results next to the limits.
func TestSumsAndProducts(t *testing.T) {
	for _, x := range []struct {
		name    string
		f       func(a, b int) (int, bool)
		a, b, n int
		ok      bool
	}{
		{"Add", exact.Add, 2, 3, 5, true},
		{"Add", exact.Add, -2, -3, -5, true},
		{"Add", exact.Add, 7, -7, 0, true},
		{"Add", exact.Add, most - 1, 1, most, true},
		{"Add", exact.Add, 1 - most, -1, -most, true},
		{"Add", exact.Add, most, -most, 0, true},
		{"Add", exact.Add, most, 1, 0, false},
		{"Add", exact.Add, -1, -most, 0, false},
		{"Add", exact.Add, most, most, 0, false},
		{"Add", exact.Add, most/2 + 1, most / 2, 0, false},
		{"Subtract", exact.Subtract, 2, 3, -1, true},
		{"Subtract", exact.Subtract, -2, -3, 1, true},
		{"Subtract", exact.Subtract, most, 0, most, true},
		{"Subtract", exact.Subtract, 0, most, -most, true},
		{"Subtract", exact.Subtract, 0, -most, most, true},
		{"Subtract", exact.Subtract, most, most, 0, true},
		{"Subtract", exact.Subtract, most, -1, 0, false},
		{"Subtract", exact.Subtract, -1, most, 0, false},
		{"Subtract", exact.Subtract, -most, most, 0, false},
		{"Multiply", exact.Multiply, -7, 6, -42, true},
		{"Multiply", exact.Multiply, -7, -6, 42, true},
		{"Multiply", exact.Multiply, 0, -most, 0, true},
		{"Multiply", exact.Multiply, -1, most, -most, true},
		{"Multiply", exact.Multiply, -1, -most, most, true},
		{"Multiply", exact.Multiply, 1 << 15, 1 << 15, most, true},
		{"Multiply", exact.Multiply, -1 << 15, 1 << 15, -most, true},
		{"Multiply", exact.Multiply, 1 << 15, 1<<15 + 1, 0, false},
		{"Multiply", exact.Multiply, 25 * 41 * 61, -13 * 1321, 0, false}, // MaxInt + 1 and its negation
		{"Multiply", exact.Multiply, 25 * 41 * 61, 13 * 1321, 0, false},
		{"Multiply", exact.Multiply, 1 << 16, 1 << 16, 0, false},
		{"Multiply", exact.Multiply, most, -most, 0, false},
	} {
		wantNumber(t, x.name, x.f, x.a, x.b, x.n, x.ok)
	}
}

// P2.1: all pairs of small integers, against exact arithmetic.
func TestSumsAndProductsAgainstExactOnes(t *testing.T) {
	for _, o := range sums() {
		for _, a := range smalls() {
			for _, b := range smalls() {
				n := o.unlimited(new(big.Int), big.NewInt(int64(a)), big.NewInt(int64(b)))
				if n.CmpAbs(big.NewInt(most)) <= 0 {
					wantNumber(t, o.name, o.f, a, b, int(n.Int64()), true)
				} else {
					wantNumber(t, o.name, o.f, a, b, 0, false)
				}
			}
		}
	}
}

// P2.1 and P2.2: an argument that is not small has no result, whatever the
// other one is, also where the exact result is small or the wrapped one is.
func TestOperationsRejectLargeArguments(t *testing.T) {
	all := slices.Concat(smalls(), larges())
	for _, o := range slices.Concat(sums(), divisions()) {
		for _, a := range larges() {
			for _, b := range all {
				wantNumber(t, o.name, o.f, a, b, 0, false)
				wantNumber(t, o.name, o.f, b, a, 0, false)
			}
		}
	}
}

// P2.2: the chapter's example 1 and DOC.md's example 1, all signs, and the
// limits.
func TestDivision(t *testing.T) {
	for _, x := range []struct{ a, b, q, r int }{
		{7, 2, 3, 1}, {-7, 2, -4, 1}, {7, -2, -4, -1}, {-7, -2, 3, -1},
		{6, 3, 2, 0}, {-6, 3, -2, 0}, {6, -3, -2, 0}, {-6, -3, 2, 0},
		{0, 5, 0, 0}, {0, -5, 0, 0},
		{1, 5, 0, 1}, {-1, 5, -1, 4}, {1, -5, -1, -4}, {-1, -5, 0, -1},
		{most, 1, most, 0}, {-most, 1, -most, 0}, {most, -1, -most, 0}, {-most, -1, most, 0},
		{most, most, 1, 0}, {-most, most, -1, 0}, {most, -most, -1, 0}, {-most, -most, 1, 0},
		{1, most, 0, 1}, {-1, most, -1, most - 1}, {1, -most, -1, 1 - most}, {-1, -most, 0, -1},
		{most - 1, -most, -1, -1}, {most, 3, 357913941, 1}, {-most, 3, -357913942, 2}, {most, -3, -357913942, -2},
	} {
		wantNumber(t, "Divide", exact.Divide, x.a, x.b, x.q, true)
		wantNumber(t, "Modulo", exact.Modulo, x.a, x.b, x.r, true)
	}
}

// P2.2
func TestDivisionByZero(t *testing.T) {
	for _, o := range divisions() {
		for _, a := range smalls() {
			wantNumber(t, o.name, o.f, a, 0, 0, false)
		}
	}
}

// P2.2: the definition, for pairs of small integers, whose products do not
// overflow.
func TestDivisionByItsDefinition(t *testing.T) {
	for _, a := range smalls() {
		for _, b := range smalls() {
			if b == 0 {
				continue
			}
			q, ok := exact.Divide(a, b)
			if !ok {
				t.Errorf("Divide(%d, %d) has no result", a, b)
				continue
			}
			if b > 0 && (q*b > a || (q+1)*b <= a) || b < 0 && (q*b < a || (q+1)*b >= a) {
				t.Errorf("Divide(%d, %d) = %d", a, b, q)
			}
			wantNumber(t, "Modulo", exact.Modulo, a, b, a-q*b, true)
		}
	}
}

// wantSum reports an error unless the sum of l is n and ok.
func wantSum(t *testing.T, l []int, n int, ok bool) {
	t.Helper()
	if got, is := exact.Sum(l); got != n || is != ok {
		t.Errorf("Sum(%v) = %d, %t, not %d, %t", l, got, is, n, ok)
	}
}

// P2.3
func TestSum(t *testing.T) {
	wantSum(t, nil, 0, true)
	wantSum(t, []int{}, 0, true)
	wantSum(t, []int{0}, 0, true)
	wantSum(t, []int{7}, 7, true)
	wantSum(t, []int{1, -2, 3, -4}, -2, true)
	wantSum(t, []int{most}, most, true)
	wantSum(t, []int{-most}, -most, true)
	wantSum(t, []int{most - 3, 1, 2}, most, true)
	wantSum(t, []int{3 - most, -1, -2}, -most, true)
	wantSum(t, []int{most, 1}, 0, false)
	wantSum(t, []int{1, most}, 0, false)
	wantSum(t, []int{-most, -1}, 0, false)
	wantSum(t, []int{most/2 + 1, most / 2}, 0, false)
	wantSum(t, []int{most, most, 1}, 0, false)
}

// P2.3: the sums of a part need not be small. The chapter's example 2.
func TestSumOfLargeParts(t *testing.T) {
	if n, ok := exact.Add(most, 1); n != 0 || ok {
		t.Errorf("Add(MaxInt, 1) = %d, %t", n, ok)
	}
	wantSum(t, []int{most, 5, -5}, most, true)
	wantSum(t, []int{-most, -5, 5}, -most, true)
	wantSum(t, []int{-5, most, 5}, most, true)
	wantSum(t, []int{most, most, -most}, most, true)
	wantSum(t, []int{most, most, -most, -most, -most}, -most, true)
	wantSum(t, []int{most, most, -most, 1}, 0, false)
	up, down := slices.Repeat([]int{most}, 5000), slices.Repeat([]int{-most}, 5000)
	wantSum(t, slices.Concat(up, down), 0, true)
	wantSum(t, slices.Concat(down, up), 0, true)
	wantSum(t, slices.Concat(up, down, []int{most}), most, true)
	wantSum(t, slices.Concat(down, up, []int{-most, -1}), 0, false)
	wantSum(t, up, 0, false)
	wantSum(t, down, 0, false)
}

// P2.3: an element that is not small has no sum, also where the exact sum is
// small or the wrapped one is.
func TestSumRejectsLargeElements(t *testing.T) {
	for _, n := range larges() {
		wantSum(t, []int{n}, 0, false)
		wantSum(t, []int{n, -n}, 0, false)
		wantSum(t, []int{1, n, 2}, 0, false)
		wantSum(t, []int{most, -most, n}, 0, false)
	}
	wantSum(t, []int{most + 1, -1}, 0, false)
	wantSum(t, []int{-1, most + 1}, 0, false)
	wantSum(t, []int{-most - 1, 1}, 0, false)
	wantSum(t, []int{math.MinInt, math.MinInt}, 0, false)
	wantSum(t, []int{1 << 62, 1 << 62, 1 << 62, 1 << 62}, 0, false)
	wantSum(t, []int{math.MaxInt, math.MinInt, 1}, 0, false)
}

// P2.3 and R2: the list, and what lies behind it, is neither changed nor
// counted.
func TestSumKeepsItsArgument(t *testing.T) {
	memory := []int{1, 2, most + 1}
	wantSum(t, memory[:2], 3, true)
	if !slices.Equal(memory, []int{1, 2, most + 1}) {
		t.Errorf("Sum changed its argument: %v", memory)
	}
}
