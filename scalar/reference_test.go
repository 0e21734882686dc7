package scalar_test

import (
	"cmp"
	"math/rand"
	"strings"
	"testing"

	"warehouse/api"
	"warehouse/expr"
	"warehouse/scalar"
	"warehouse/zone"
)

// tree is an expression as a tree.
type tree struct {
	node     api.Node
	operands []tree
}

// flatten returns a tree in postfix order.
func (x tree) flatten() []api.Node {
	var operands [][]api.Node
	for _, operand := range x.operands {
		operands = append(operands, operand.flatten())
	}
	return apply(x.node, operands...)
}

// minute is a time in the reference, where nil is null and the other values
// are bool, int and string.
type minute int

// typeOf returns the type of a tree over columns and zones, by the table.
func (x tree) typeOf(lines []line) (kind int, nullable bool, err api.Errno) {
	var kinds []int
	var nulls []bool
	for _, operand := range x.operands {
		k, n, err := operand.typeOf(lines)
		if err != api.OK {
			return 0, false, err
		}
		kinds, nulls = append(kinds, k), append(nulls, n)
	}
	switch x.node.Op {
	case api.OpConst:
		return x.node.Value.Kind, x.node.Value == null, api.OK
	case api.OpColumn:
		for _, c := range columns() {
			if c.Name == x.node.Name {
				return c.Kind, c.Nullable, api.OK
			}
		}
		return 0, false, api.ErrUnknown
	case api.OpCall:
		return 0, false, api.ErrUnknown
	case api.OpDay:
		if x.node.Name != "z" && x.node.Name != "core.y" {
			return 0, false, api.ErrUnknown
		}
	}
	kind, nullable, ok := lookup(lines, x.node.Op, kinds, nulls)
	if !ok {
		return 0, false, api.ErrType
	}
	return kind, nullable, api.OK
}

// plain returns a value of the reference.
func plain(v api.Value) any {
	switch v.Kind {
	case api.Bool:
		return v.Num == 1
	case api.Int:
		return v.Num
	case api.Text:
		return v.Str
	case api.Time:
		return minute(v.Num)
	}
	return nil
}

// valueOf returns the value of a tree that has a type, for a row of columns.
func (x tree) valueOf(row []api.Value) any {
	switch x.node.Op {
	case api.OpConst:
		return plain(x.node.Value)
	case api.OpColumn:
		for i, c := range columns() {
			if c.Name == x.node.Name {
				return plain(row[i])
			}
		}
	case api.OpIf:
		// Only the operand that is chosen is evaluated here.
		if x.operands[0].valueOf(row) == true {
			return x.operands[1].valueOf(row)
		}
		return x.operands[2].valueOf(row)
	case api.OpCoalesce:
		if a := x.operands[0].valueOf(row); a != nil {
			return a
		}
		return x.operands[1].valueOf(row)
	case api.OpDay:
		if at, ok := x.operands[0].valueOf(row).(minute); ok {
			n, _ := zone.Day(zones()[map[string]int{"z": 0, "core.y": 1}[x.node.Name]], int(at))
			return n
		}
		return nil
	}
	a := x.operands[0].valueOf(row)
	if len(x.operands) == 1 {
		return unary(x.node.Op, a)
	}
	return binary(x.node.Op, a, x.operands[1].valueOf(row))
}

// unary returns the value of an operator with one operand.
func unary(op int, a any) any {
	switch v := a.(type) {
	case bool:
		if op == api.OpNot {
			return !v
		}
	case int:
		if op == api.OpNegate {
			return -v
		}
	case string:
		if op == api.OpLength {
			return len([]byte(v))
		}
	}
	if op == api.OpIsNull {
		return a == nil
	}
	return nil
}

// binary returns the value of an operator with two operands.
func binary(op int, a, b any) any {
	switch {
	case op == api.OpAnd:
		return junction(a, b, false)
	case op == api.OpOr:
		return junction(a, b, true)
	case a == nil || b == nil:
		return nil
	case op == api.OpEqual:
		return a == b
	case op == api.OpNotEqual:
		return a != b
	case op == api.OpLess:
		return order(a, b) < 0
	case op == api.OpLessEqual:
		return order(a, b) <= 0
	}
	switch v := a.(type) {
	case string:
		if s := v + b.(string); len(s) <= api.MaxText {
			return s
		}
		return nil
	case minute:
		if w, ok := b.(minute); ok {
			return int(v - w)
		}
		if op == api.OpSubtract {
			return onClock(v - minute(b.(int)))
		}
		return onClock(v + minute(b.(int)))
	}
	return arithmetic(op, a.(int), b.(int))
}

// junction returns a value that is decided by one operand that is decisive,
// unknown if one is not known, and else the opposite.
func junction(a, b any, decisive bool) any {
	if a == decisive || b == decisive {
		return decisive
	}
	if a == nil || b == nil {
		return nil
	}
	return !decisive
}

// order compares two values of one kind.
func order(a, b any) int {
	switch v := a.(type) {
	case bool:
		w := b.(bool)
		switch {
		case v == w:
			return 0
		case w:
			return -1
		}
		return 1
	case int:
		return cmp.Compare(v, b.(int))
	case minute:
		return cmp.Compare(v, b.(minute))
	}
	return strings.Compare(a.(string), b.(string))
}

// onClock returns a time, or nil if there is none.
func onClock(m minute) any {
	if m < 0 || m > api.MaxTime {
		return nil
	}
	return m
}

// arithmetic returns the value of an operator of integers.
func arithmetic(op, a, b int) any {
	n := 0
	switch op {
	case api.OpAdd:
		n = a + b
	case api.OpSubtract:
		n = a - b
	case api.OpMultiply:
		n = a * b
	default:
		if b == 0 {
			return nil
		}
		q, r := quotient(a, b)
		n = int(q.Int64())
		if op == api.OpModulo {
			n = int(r.Int64())
		}
	}
	if n < -api.MaxInt || n > api.MaxInt {
		return nil
	}
	return n
}

// forest makes random trees.
type forest struct {
	*rand.Rand
	// errors is how many of 1000 nodes get something that does not fit.
	errors int
}

// leaf returns a random constant or column, mostly of a kind.
func (r forest) leaf(kind int) tree {
	if r.Intn(1000) < r.errors {
		kind = r.Intn(5)
		if r.Intn(3) == 0 {
			return tree{node: api.Node{Op: api.OpColumn, Name: "x"}}
		}
	}
	if r.Intn(8) == 0 {
		return tree{node: api.Node{Op: api.OpConst}}
	}
	if kind != api.Null && r.Intn(2) == 0 {
		return tree{node: api.Node{Op: api.OpColumn, Name: columns()[2*kind-2+r.Intn(2)].Name}}
	}
	values := samples()[kind]
	return tree{node: api.Node{Op: api.OpConst, Value: values[r.Intn(len(values))]}}
}

// grow returns a random tree, mostly of a kind, of at most a height.
func (r forest) grow(kind, height int, lines []line) tree {
	if height <= 1 || r.Intn(6) == 0 {
		return r.leaf(kind)
	}
	if r.Intn(1000) < r.errors {
		kind = r.Intn(5)
		if r.Intn(3) == 0 {
			return tree{call("f", 1), []tree{r.grow(kind, height-1, lines)}}
		}
	}
	l := lines[r.Intn(len(lines))]
	for l.kind != kind {
		l = lines[r.Intn(len(lines))]
	}
	x := tree{node: api.Node{Op: l.op}}
	if l.op == api.OpDay {
		x.node.Name = []string{"z", "core.y"}[r.Intn(2)]
		if r.Intn(1000) < r.errors {
			x.node.Name = "x"
		}
	}
	for _, k := range l.operands {
		x.operands = append(x.operands, r.grow(k, height-1, lines))
	}
	return x
}

// rows returns random rows of columns.
func (r forest) rows(n int) [][]api.Value {
	var l [][]api.Value
	for range n {
		var row []api.Value
		for _, c := range columns() {
			values := samples()[c.Kind]
			if c.Nullable {
				values = append(values, null, null)
			}
			row = append(row, values[r.Intn(len(values))])
		}
		l = append(l, row)
	}
	return l
}

// wantTree reports an error unless Type and Eval of a tree, for some rows, are
// those of the reference. It returns the error, and how many values were null.
func wantTree(t *testing.T, x tree, lines []line, rows [][]api.Value) (err api.Errno, nulls int) {
	t.Helper()
	e := x.flatten()
	kind, nullable, err := x.typeOf(lines)
	if k, n, got := scalar.Type(e, columns(), zones()); k != kind || n != nullable || got != err {
		t.Errorf("Type(%s) = %d, %t, %d, not %d, %t, %d", shown(e), k, n, got, kind, nullable, err)
	}
	for _, row := range rows {
		var want any
		if err == api.OK {
			want = x.valueOf(row)
		}
		v, got := scalar.Eval(e, columns(), row, zones())
		if plain(v) != want || got != err || v.Kind != api.Null && v.Kind != kind || v == null && err == api.OK && !nullable {
			t.Errorf("Eval(%s) of %v = %v, %d, not %v, %d; the type is %d, %t", shown(e), row, v, got, want, err, kind, nullable)
		}
		if v == null {
			nulls++
		}
	}
	return err, nulls
}

// P9.1 to P9.4: random expressions, some of them with errors, have the types
// and values of the reference.
func TestRandomExpressions(t *testing.T) {
	lines := table()
	for _, errors := range []int{0, 30, 200} {
		r := forest{rand.New(rand.NewSource(int64(errors))), errors}
		found, nulls, values := map[api.Errno]int{}, 0, 0
		for i := range 6000 {
			x := r.grow(r.Intn(5), 1+i%5, lines)
			if expr.Validate(x.flatten()) != api.OK {
				continue
			}
			err, n := wantTree(t, x, lines, r.rows(4))
			found[err]++
			if err == api.OK {
				nulls, values = nulls+n, values+4
			}
		}
		if nulls < values/10 || nulls > values*9/10 || found[api.OK] < 1500 || errors > 0 && (found[api.ErrType] < 200 || found[api.ErrUnknown] < 200) {
			t.Errorf("%v: %d of %d values are null", found, nulls, values)
		}
	}
}
