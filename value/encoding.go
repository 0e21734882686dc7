package value

import "warehouse/api"

// numberSize is the number of bytes of an encoded integer or time.
const numberSize = 4

// Encode returns the encoding of row. It returns ErrLimit if the row has more
// than MaxColumns values, and ErrShape if one of them is not valid (P1.5).
func Encode(row []api.Value) ([]byte, api.Errno) {
	if len(row) > api.MaxColumns {
		return nil, api.ErrLimit
	}
	b := []byte{byte(len(row))}
	for _, v := range row {
		if !Valid(v) {
			return nil, api.ErrShape
		}
		b = appendValue(b, v)
	}
	return b, api.OK
}

// Decode returns the row whose encoding is b, or ErrEncoding if there is none
// (P1.6).
func Decode(b []byte) ([]api.Value, api.Errno) {
	if len(b) == 0 || b[0] > api.MaxColumns {
		return nil, api.ErrEncoding
	}
	row := make([]api.Value, b[0])
	rest := b[1:]
	for i := range row {
		v, size := readValue(rest)
		if size == 0 {
			return nil, api.ErrEncoding
		}
		row[i] = v
		rest = rest[size:]
	}
	if len(rest) > 0 {
		return nil, api.ErrEncoding
	}
	return row, api.OK
}

// appendValue appends the encoding of v, which is valid.
func appendValue(b []byte, v api.Value) []byte {
	b = append(b, byte(v.Kind))
	switch v.Kind {
	case api.Bool:
		b = append(b, byte(v.Num))
	case api.Int:
		// The shift by MaxInt leaves no negative numbers, so that the sum
		// needs no sign.
		b = appendNumber(b, uint32(v.Num+api.MaxInt))
	case api.Time:
		b = appendNumber(b, uint32(v.Num))
	case api.Text:
		b = append(b, byte(len(v.Str)))
		b = append(b, v.Str...)
	}
	return b
}

// readValue returns the value whose encoding b begins with, and the size of
// this encoding, which is 0 if there is none.
func readValue(b []byte) (api.Value, int) {
	if len(b) == 0 {
		return api.Value{}, 0
	}
	v, size, ok := readFields(int(b[0]), b[1:])
	if !ok || !Valid(v) {
		return api.Value{}, 0
	}
	return v, 1 + size
}

// readFields returns the struct of the given kind that follows in b, and the
// number of bytes that it takes there. It does not check that the struct is a
// value.
func readFields(kind int, b []byte) (v api.Value, size int, ok bool) {
	v.Kind = kind
	switch kind {
	case api.Null:
		return v, 0, true
	case api.Bool:
		if len(b) > 0 {
			v.Num = int(b[0])
			return v, 1, true
		}
	case api.Int:
		if len(b) >= numberSize {
			v.Num = int(int64(readNumber(b)) - api.MaxInt)
			return v, numberSize, true
		}
	case api.Time:
		if len(b) >= numberSize {
			v.Num = int(readNumber(b))
			return v, numberSize, true
		}
	case api.Text:
		if len(b) > 0 && len(b)-1 >= int(b[0]) {
			size = 1 + int(b[0])
			v.Str = string(b[1:size])
			return v, size, true
		}
	}
	return api.Value{}, 0, false
}

// appendNumber appends the bytes of n, the most significant one first.
func appendNumber(b []byte, n uint32) []byte {
	return append(b, byte(n>>24), byte(n>>16), byte(n>>8), byte(n))
}

// readNumber returns the number that appendNumber wrote at the start of b.
func readNumber(b []byte) uint32 {
	return uint32(b[0])<<24 | uint32(b[1])<<16 | uint32(b[2])<<8 | uint32(b[3])
}
