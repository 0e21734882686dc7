package expr_test

import (
	"slices"
	"testing"

	"warehouse/api"
	"warehouse/expr"
)

// longText is the text of an expression with operators of all kinds.
const longText = "if(a > b, f(c, -5, day(d, z)), not e and 'it''s' ++ g = null) or b + c * 2 >= -d"

// R2 and R3 for P8.4 and P8.5: a result shares no memory with another one.
func TestParseResultsAreNew(t *testing.T) {
	tokens := tokensOf(longText)
	first, _, _ := expr.ParseAt(tokens, 0)
	second, _, _ := expr.ParseAt(tokens, 0)
	third, _, _ := expr.Parse(longText)
	want := slices.Clone(first)
	clear(first[:cap(first)])
	if len(want) != 26 || !slices.Equal(second, want) || !slices.Equal(third, want) {
		t.Errorf("%+v, %+v, not %+v", second, third, want)
	}
	clear(third[:cap(third)])
	if again, _, _ := expr.Parse(longText); !slices.Equal(again, want) || !slices.Equal(second, want) {
		t.Errorf("%+v, %+v, not %+v", again, second, want)
	}
}

// R2 for P8.4: the tokens and their spare capacity stay.
func TestTokensStay(t *testing.T) {
	all := append(tokensOf(longText), tokensOf("a > b")...)
	want := slices.Clone(all)
	for size := range len(all) + 1 {
		for at := range size {
			expr.ParseAt(all[:size], at)
		}
	}
	if !slices.Equal(all, want) {
		t.Errorf("%+v, not %+v", all, want)
	}
}

// R2 for P8.2, P8.6 and P8.7: the nodes and their spare capacity stay.
func TestNodesStay(t *testing.T) {
	all := append(parsed(longText), op(99), column("b"), op(api.OpNot))
	want := slices.Clone(all)
	for size := range len(all) + 1 {
		first, err := expr.Format(all[:size])
		second, again := expr.Format(all[:size])
		if first != second || err != again || err != expr.Validate(all[:size]) {
			t.Errorf("%d nodes: %q, %d, %q, %d", size, first, err, second, again)
		}
		expr.Columns(all[:size])
		expr.Rename(all[:size], []string{"a", "b"}, []string{"x", "y"})
	}
	if !slices.Equal(all, want) {
		t.Errorf("%+v, not %+v", all, want)
	}
}

// R2 for P8.7: results of Columns and Rename are new, and the names stay.
func TestNamesStay(t *testing.T) {
	e := columns("b a b c")
	from, to := []string{"b", "a", "b", "d"}, []string{"x", "y", "z", "w"}
	renamed, names := expr.Rename(e, from[:2], to[:3]), expr.Columns(e)
	if !slices.Equal(renamed, columns("x y x c")) || !slices.Equal(names, []string{"a", "b", "c"}) {
		t.Errorf("%+v, %q", renamed, names)
	}
	same := expr.Rename(e, nil, nil)
	clear(renamed[:cap(renamed)])
	clear(names[:cap(names)])
	clear(same[:cap(same)])
	if !slices.Equal(e, columns("b a b c")) || !slices.Equal(from, []string{"b", "a", "b", "d"}) || !slices.Equal(to, []string{"x", "y", "z", "w"}) {
		t.Errorf("%+v, %q, %q", e, from, to)
	}
	if again := expr.Columns(e); !slices.Equal(again, []string{"a", "b", "c"}) {
		t.Errorf("%q", again)
	}
}
