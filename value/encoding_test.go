package value_test

import (
	"bytes"
	"math/rand"
	"slices"
	"strings"
	"testing"

	"warehouse/api"
	"warehouse/value"
)

type encoded struct {
	row   []api.Value
	bytes []byte
}

// encodings returns rows with their encodings; the second one is the
// chapter's example 3.
func encodings() []encoded {
	return []encoded{
		{nil, []byte{0}},
		{[]api.Value{boolean(1), text("ab")}, []byte{2, 1, 1, 3, 2, 97, 98}},
		{[]api.Value{null()}, []byte{1, 0}},
		{[]api.Value{boolean(0)}, []byte{1, 1, 0}},
		{[]api.Value{integer(-api.MaxInt)}, []byte{1, 2, 0, 0, 0, 0}},
		{[]api.Value{integer(-api.MaxInt + 258)}, []byte{1, 2, 0, 0, 1, 2}},
		{[]api.Value{integer(-1)}, []byte{1, 2, 63, 255, 255, 255}},
		{[]api.Value{integer(0)}, []byte{1, 2, 64, 0, 0, 0}},
		{[]api.Value{integer(0x010203)}, []byte{1, 2, 64, 1, 2, 3}},
		{[]api.Value{integer(api.MaxInt)}, []byte{1, 2, 128, 0, 0, 0}},
		{[]api.Value{text("")}, []byte{1, 3, 0}},
		{[]api.Value{text("\x00\xff")}, []byte{1, 3, 2, 0, 255}},
		{[]api.Value{text(longest)}, append([]byte{1, 3, 64}, longest...)},
		{[]api.Value{moment(0)}, []byte{1, 4, 0, 0, 0, 0}},
		{[]api.Value{moment(0x01020304)}, []byte{1, 4, 1, 2, 3, 4}},
		{[]api.Value{moment(api.MaxTime)}, []byte{1, 4, 34, 85, 15, 255}},
		{[]api.Value{null(), boolean(1), integer(-5), text("a"), moment(7), null()}, []byte{6, 0, 1, 1, 2, 63, 255, 255, 251, 3, 1, 97, 4, 0, 0, 0, 7, 0}},
		{make([]api.Value, api.MaxColumns), append([]byte{12}, make([]byte, 12)...)},
	}
}

// P1.5
func TestEncode(t *testing.T) {
	for _, x := range encodings() {
		if b, e := value.Encode(x.row); e != api.OK || !bytes.Equal(b, x.bytes) {
			t.Errorf("Encode(%+v) = %v, %v", x.row, b, e)
		}
	}
	if b, e := value.Encode([]api.Value{}); e != api.OK || !bytes.Equal(b, []byte{0}) {
		t.Errorf("Encode of an empty slice = %v, %v", b, e)
	}
}

// P1.5: the longest encoding there is.
func TestEncodeFullRow(t *testing.T) {
	row := slices.Repeat([]api.Value{text(longest)}, api.MaxColumns)
	want := append([]byte{api.MaxColumns}, bytes.Repeat(append([]byte{3, 64}, longest...), api.MaxColumns)...)
	b, e := value.Encode(row)
	if e != api.OK || !bytes.Equal(b, want) {
		t.Errorf("Encode = %v, %v", b, e)
	}
	if got, e := value.Decode(want); e != api.OK || !slices.Equal(got, row) {
		t.Errorf("Decode = %+v, %v", got, e)
	}
}

// P1.5
func TestEncodeReturnsErrLimit(t *testing.T) {
	for _, n := range []int{api.MaxColumns + 1, 256, 257, 1000} {
		if b, e := value.Encode(make([]api.Value, n)); e != api.ErrLimit || len(b) > 0 {
			t.Errorf("Encode of %d values = %v, %v", n, b, e)
		}
	}
}

// P1.5
func TestEncodeReturnsErrShape(t *testing.T) {
	for _, v := range structs() {
		for _, row := range [][]api.Value{{v}, {v, null()}, {integer(1), v}, {null(), v, text("a")}} {
			if b, e := value.Encode(row); e != api.ErrShape || len(b) > 0 {
				t.Errorf("Encode(%+v) = %v, %v", row, b, e)
			}
		}
	}
	row := make([]api.Value, api.MaxColumns)
	row[api.MaxColumns-1].Num = 1
	if b, e := value.Encode(row); e != api.ErrShape || len(b) > 0 {
		t.Errorf("Encode(%+v) = %v, %v", row, b, e)
	}
}

// P1.5: ErrLimit comes before ErrShape, wherever the invalid value is (R6).
func TestEncodeReturnsTheFirstError(t *testing.T) {
	for i := range api.MaxColumns + 1 {
		row := make([]api.Value, api.MaxColumns+1)
		row[i] = boolean(2)
		if b, e := value.Encode(row); e != api.ErrLimit || len(b) > 0 {
			t.Errorf("Encode(%+v) = %v, %v", row, b, e)
		}
	}
}

// P1.6
func TestDecode(t *testing.T) {
	for _, x := range encodings() {
		if row, e := value.Decode(x.bytes); e != api.OK || !slices.Equal(row, x.row) {
			t.Errorf("Decode(%v) = %+v, %v", x.bytes, row, e)
		}
	}
}

// wantNoRow reports an error unless b is the encoding of no row.
func wantNoRow(t *testing.T, b []byte) {
	t.Helper()
	if row, e := value.Decode(b); e != api.ErrEncoding || len(row) > 0 {
		t.Errorf("Decode(%v) = %+v, %v", b, row, e)
	}
}

// P1.6: every part that is missing at the end, and every byte too many.
func TestDecodeOfOtherLengths(t *testing.T) {
	wantNoRow(t, nil)
	wantNoRow(t, []byte{})
	for _, x := range encodings() {
		for n := range len(x.bytes) {
			wantNoRow(t, x.bytes[:n])
		}
		for _, more := range []byte{0, 1, 255} {
			wantNoRow(t, append(slices.Clone(x.bytes), more))
		}
	}
}

// P1.6: a row never has more than MaxColumns values.
func TestDecodeOfLongRows(t *testing.T) {
	for n := api.MaxColumns + 1; n < 256; n++ {
		wantNoRow(t, []byte{byte(n)})
		wantNoRow(t, append([]byte{byte(n)}, make([]byte, n)...))
	}
}

// P1.6
func TestDecodeOfUnknownKinds(t *testing.T) {
	for kind := 5; kind < 256; kind++ {
		for size := range 6 {
			wantNoRow(t, append([]byte{1, byte(kind)}, make([]byte, size)...))
		}
	}
}

// P1.6: values that are outside the limits of their kind.
func TestDecodeOfInvalidValues(t *testing.T) {
	for n := 2; n < 256; n++ {
		wantNoRow(t, []byte{1, 1, byte(n)})
	}
	for _, b := range [][]byte{
		{1, 2, 128, 0, 0, 1},
		{1, 2, 192, 0, 0, 0},
		{1, 2, 255, 255, 255, 255},
		{1, 4, 34, 85, 16, 0},
		{1, 4, 128, 0, 0, 0},
		{1, 4, 255, 255, 255, 255},
		{2, 0, 1, 2},
		{2, 1, 2, 0},
	} {
		wantNoRow(t, b)
	}
	for n := api.MaxText + 1; n < 256; n++ {
		wantNoRow(t, append([]byte{1, 3, byte(n)}, make([]byte, n)...))
		wantNoRow(t, append([]byte{2, 3, byte(n)}, make([]byte, n+1)...))
	}
}

// P1.5 and P1.6: Decode undoes Encode for rows of any values.
func TestDecodeUndoesEncode(t *testing.T) {
	random := rand.New(rand.NewSource(1))
	l := values()
	for range 2000 {
		row := make([]api.Value, random.Intn(api.MaxColumns+1))
		for i := range row {
			row[i] = l[random.Intn(len(l))]
		}
		b, e := value.Encode(row)
		if e != api.OK {
			t.Fatalf("Encode(%+v): %v", row, e)
		}
		if got, e := value.Decode(b); e != api.OK || !slices.Equal(got, row) {
			t.Fatalf("Decode(%v) = %+v, %v", b, got, e)
		}
	}
}

// P1.6: bytes that Decode accepts are the encoding of the row that it returns.
func TestEncodeUndoesDecode(t *testing.T) {
	random := rand.New(rand.NewSource(2))
	accepted := 0
	for range 200000 {
		b := make([]byte, 1+random.Intn(10))
		for i := range b {
			b[i] = byte(random.Intn(6))
		}
		row, e := value.Decode(b)
		if e != api.OK {
			continue
		}
		accepted++
		if got, e := value.Encode(row); e != api.OK || !bytes.Equal(got, b) {
			t.Fatalf("Encode(%+v) = %v, %v, not %v", row, got, e, b)
		}
	}
	if accepted < 1000 {
		t.Errorf("only %d rows", accepted)
	}
}

// P1.5, P1.6 and R2: arguments are not modified, and results share no memory
// with them.
func TestEncodingKeepsItsArguments(t *testing.T) {
	memory := []api.Value{text("ab"), integer(1), text("spare")}
	if _, e := value.Encode(memory[:2]); e != api.OK {
		t.Fatal(e)
	}
	if !slices.Equal(memory, []api.Value{text("ab"), integer(1), text("spare")}) {
		t.Errorf("Encode changed its argument: %+v", memory)
	}
	b := []byte{1, 3, 2, 97, 98, 99}
	row, e := value.Decode(b[:5])
	if e != api.OK {
		t.Fatal(e)
	}
	if !bytes.Equal(b, []byte{1, 3, 2, 97, 98, 99}) {
		t.Errorf("Decode changed its argument: %v", b)
	}
	clear(b)
	if !slices.Equal(row, []api.Value{text("ab")}) {
		t.Errorf("Decode kept its argument: %+v", row)
	}
}

// P1.5 and R3: an encoding does not change with later calls.
func TestEncodeReturnsNewMemory(t *testing.T) {
	row := []api.Value{text(strings.Repeat("a", 10))}
	first, _ := value.Encode(row)
	want := slices.Clone(first)
	second, _ := value.Encode(row)
	clear(second)
	if !bytes.Equal(first, want) {
		t.Errorf("the first encoding became %v", first)
	}
}
