package scalar_test

import (
	"slices"
	"strings"
	"testing"

	"warehouse/api"
	"warehouse/expr"
	"warehouse/scalar"
)

// wantResult reports an error unless the node has the value want for these
// operands, as constants and as columns of their kinds, or of Int for null.
func wantResult(t *testing.T, n api.Node, want api.Value, operands ...api.Value) {
	t.Helper()
	var kinds []int
	for _, v := range operands {
		if v == null {
			kinds = append(kinds, api.Int)
		} else {
			kinds = append(kinds, v.Kind)
		}
	}
	wantResultOf(t, n, want, operands, kinds)
}

// wantResultOf does the same with columns of the given kinds.
func wantResultOf(t *testing.T, n api.Node, want api.Value, operands []api.Value, kinds []int) {
	t.Helper()
	var constants, names [][]api.Node
	var l []api.Column
	for i, v := range operands {
		c := optional("c"+string(rune('a'+i)), kinds[i])
		constants, names, l = append(constants, constant(v)), append(names, column(c.Name)), append(l, c)
	}
	if got, err := scalar.Eval(apply(n, names...), l, operands, zones()); got != want || err != api.OK {
		t.Errorf("%+v of columns %v = %v, %d, not %v", n, operands, got, err, want)
	}
	if got, err := scalar.Eval(apply(n, constants...), columns(), filled(), zones()); got != want || err != api.OK {
		t.Errorf("%+v of constants %v = %v, %d, not %v", n, operands, got, err, want)
	}
}

// samples returns values of each kind.
func samples() [][]api.Value {
	return [][]api.Value{
		api.Null: {null},
		api.Bool: {boolean(0), boolean(1)},
		api.Int:  {number(-api.MaxInt), number(-1), number(0), number(1), number(7), number(api.MaxInt)},
		api.Text: {text(""), text("\x00"), text("a"), text("é"), text(strings.Repeat("x", api.MaxText))},
		api.Time: {moment(0), moment(1), moment(1440), moment(api.MaxTime)},
	}
}

// P9.3: constants, and columns at each place.
func TestLeaves(t *testing.T) {
	for _, l := range samples() {
		for _, v := range l {
			wantValue(t, constant(v), filled(), v)
		}
	}
	for _, row := range [][]api.Value{filled(), sparse()} {
		for i, c := range columns() {
			wantValue(t, column(c.Name), row, row[i])
		}
	}
}

// P9.3: a null operand makes each operator null, at each place and at all
// places, but for the exceptions.
func TestNullOperands(t *testing.T) {
	exceptions := []int{api.OpAnd, api.OpOr, api.OpIsNull, api.OpIf, api.OpCoalesce}
	for _, x := range table() {
		n := api.Node{Op: x.op}
		if x.op == api.OpDay {
			n.Name = "z"
		}
		if slices.Contains(exceptions, x.op) || x.operands[0] == api.Null {
			continue
		}
		none := make([]api.Value, len(x.operands))
		wantResultOf(t, n, null, none, x.operands)
		if len(x.operands) == 2 {
			for _, v := range samples()[x.operands[0]] {
				wantResultOf(t, n, null, []api.Value{v, null}, x.operands)
			}
			for _, v := range samples()[x.operands[1]] {
				wantResultOf(t, n, null, []api.Value{null, v}, x.operands)
			}
		}
	}
}

// P9.3: all pairs of true, false and null.
func TestLogic(t *testing.T) {
	no, yes := boolean(0), boolean(1)
	for _, x := range [][4]api.Value{
		{no, no, no, no}, {no, null, no, null}, {no, yes, no, yes},
		{null, no, no, null}, {null, null, null, null}, {null, yes, null, yes},
		{yes, no, no, yes}, {yes, null, null, yes}, {yes, yes, yes, yes},
	} {
		wantResultOf(t, op(api.OpAnd), x[2], x[:2], []int{api.Bool, api.Bool})
		wantResultOf(t, op(api.OpOr), x[3], x[:2], []int{api.Bool, api.Bool})
	}
	wantResult(t, op(api.OpNot), no, yes)
	wantResult(t, op(api.OpNot), yes, no)
	wantResultOf(t, op(api.OpNot), null, []api.Value{null}, []int{api.Bool})
}

// P9.3: OpIsNull, OpCoalesce and OpIf of values of each kind and of null.
func TestChoices(t *testing.T) {
	no, yes := boolean(0), boolean(1)
	for kind, l := range samples() {
		column := max(kind, api.Bool)
		for _, v := range l {
			wantResult(t, op(api.OpIsNull), truth(v == null), v)
			for _, w := range append(l, null) {
				first := v
				if v == null {
					first = w
				}
				pair, kinds := []api.Value{v, w}, []int{column, column}
				wantResultOf(t, op(api.OpCoalesce), first, pair, kinds)
				wantResultOf(t, op(api.OpCoalesce), v, []api.Value{null, v}, kinds)
				kinds = []int{api.Bool, column, column}
				wantResultOf(t, op(api.OpIf), v, []api.Value{yes, v, w}, kinds)
				wantResultOf(t, op(api.OpIf), w, []api.Value{no, v, w}, kinds)
				wantResultOf(t, op(api.OpIf), w, []api.Value{null, v, w}, kinds)
				wantResultOf(t, op(api.OpIf), w, []api.Value{yes, w, v}, kinds)
				wantResultOf(t, op(api.OpIf), v, []api.Value{null, w, v}, kinds)
			}
		}
	}
}

// P9.3: comparisons of all pairs of values of one kind, in ascending order.
func TestComparisons(t *testing.T) {
	var ints []api.Value
	for _, n := range ends() {
		ints = append(ints, number(n))
	}
	texts := []api.Value{text("")}
	for _, s := range []string{"\x00", "\x00a", " ", "0", "10", "9", "A", "Z", "a", "a\x00", "aa", "ab", "b", strings.Repeat("b", api.MaxText), "é", "日", "\xff"} {
		texts = append(texts, text(s))
	}
	for _, l := range [][]api.Value{
		{boolean(0), boolean(1)}, ints, texts, {moment(0), moment(1), moment(9), moment(10), moment(1439), moment(1440), moment(api.MaxTime - 1), moment(api.MaxTime)},
	} {
		for i, a := range l {
			for k, b := range l {
				wantResult(t, op(api.OpEqual), truth(i == k), a, b)
				wantResult(t, op(api.OpNotEqual), truth(i != k), a, b)
				wantResult(t, op(api.OpLess), truth(i < k), a, b)
				wantResult(t, op(api.OpLessEqual), truth(i <= k), a, b)
			}
		}
	}
}

// P9.3: texts of all lengths in bytes; the result has at most MaxText of them.
func TestConcat(t *testing.T) {
	for _, s := range []string{strings.Repeat("x", api.MaxText), strings.Repeat("é", api.MaxText/2), strings.Repeat("\xff\x00", api.MaxText/2)} {
		for n := range len(s) + 1 {
			for m := range len(s) + 1 {
				want := text(s[:n] + s[m:])
				if len(want.Str) > api.MaxText {
					want = null
				}
				wantResult(t, op(api.OpConcat), want, text(s[:n]), text(s[m:]))
			}
		}
	}
	wantResult(t, op(api.OpConcat), text("ab"), text("a"), text("b"))
	wantResult(t, op(api.OpConcat), text("ba"), text("b"), text("a"))
	wantResult(t, op(api.OpConcat), null, text(strings.Repeat("é", api.MaxText/2)), text("x"))
}

// P9.3: OpLength counts bytes, whatever they are.
func TestLength(t *testing.T) {
	for s, n := range map[string]int{
		"": 0, "a": 1, "ab": 2, " a ": 3, "\x00": 1, "a\x00b": 3, "é": 2, "e\u0301": 3, "日本": 6, "😀": 4, "\xff": 1, "\xc3": 1, "\xff\xfe\xfd": 3, "it's": 4,
		strings.Repeat("é", api.MaxText/2): api.MaxText,
	} {
		wantResult(t, op(api.OpLength), number(n), text(s))
	}
	for n := range api.MaxText + 1 {
		wantResult(t, op(api.OpLength), number(n), text(strings.Repeat("x", n)))
	}
}

// P9.3: the operands of each operator in their order, in whole expressions.
func TestValues(t *testing.T) {
	for s, v := range map[string]api.Value{
		"i + 1": number(8), "i - 9": number(-2), "9 - i": number(2), "i * -3": number(-21), "-7 / 2": number(-4), "7 / -2": number(-4), "-7 % 2": number(1), "7 % -2": number(-1), "-i": number(-7), "-(-i)": number(7),
		"t + 60": moment(1560), "t - 60": moment(1440), "t - @1970-01-02T00:00": number(60), "@1970-01-01T00:00 - t": number(-1500), "t - 1501": null, "t + i": moment(1507),
		"s ++ 'c'": text("abc"), "'c' ++ s": text("cab"), "s ++ s ++ s": text("ababab"),
		"i > 6": boolean(1), "i >= 8": boolean(0), "i < 8 and not i < 7": boolean(1), "s < 'b' or 1 / 0 = 0": boolean(1), "t = @1970-01-02T01:00": boolean(1),
		"if(b, i, 0)": number(7), "if(nb, i, 0)": number(0), "if(nb, 1 / 0, 5)": number(5), "if(b, 5, 1 / 0)": number(5), "if(1 = null, 1, 2)": number(2),
		"coalesce(ni, i)": number(-5), "coalesce(1 / 0, 7)": number(7), "coalesce(1073741824 + 1, ni - ni)": number(0),
		"length(s ++ ns)": number(2), "isnull(length(s ++ null))": boolean(1), "day(t, z)": number(1), "day(t - 121, z)": number(0), "day(t, core.y) + i": number(8),
		"1073741824 + 1 - 1": null, "i + (1 - 1)": number(7), "(i + 1) * (i - 1)": number(48), "i + 1 * i - 1": number(13),
	} {
		wantValue(t, parsed(t, s), filled(), v)
	}
	for s, v := range map[string]api.Value{
		"ni": null, "-ni": null, "i + ni": null, "nt + 1": null, "t - nt": null, "ns ++ s": null, "ni = ni": null, "ni != 1": null, "ns < s": null, "nb and b": null, "nb and not b": boolean(0), "nb or b": boolean(1), "nb or nb": null,
		"isnull(ni)": boolean(1), "isnull(i)": boolean(0), "if(nb, 1, 2)": number(2), "if(b, ni, 2)": null, "coalesce(ni, i)": number(7), "coalesce(ni, ni)": null, "length(ns)": null, "day(nt, z)": null, "not nb": null, "not isnull(nb)": boolean(0),
	} {
		wantValue(t, parsed(t, s), sparse(), v)
	}
}

// P9.4: the value of each operator with operands of all types has the kind of
// Type, and is null only if Type reports that it can be.
func TestValuesHaveTheirType(t *testing.T) {
	all := operands()
	for _, n := range operators() {
		for i := range all {
			for k := range all {
				l := []operand{all[i], all[k], all[(i+k)%len(all)]}
				var e [][]api.Node
				for _, x := range l[:expr.Arity(n)] {
					e = append(e, parsed(t, x.text))
				}
				wantTyped(t, apply(n, e...))
			}
		}
	}
}

// wantTyped reports an error unless the values of an expression have its type.
func wantTyped(t *testing.T, e []api.Node) {
	t.Helper()
	kind, nullable, err := scalar.Type(e, columns(), zones())
	for _, row := range [][]api.Value{filled(), sparse()} {
		v, got := scalar.Eval(e, columns(), row, zones())
		if got != err || v == null && err == api.OK && !nullable || v.Kind != api.Null && v.Kind != kind {
			t.Errorf("Eval(%s) of %v = %v, %d, but its type is %d, %t, %d", shown(e), row, v, got, kind, nullable, err)
		}
	}
}
