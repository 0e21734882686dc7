package expr_test

import (
	"slices"
	"strings"
	"testing"

	"warehouse/api"
	"warehouse/expr"
)

// wantColumns reports an error unless Columns of e is names.
func wantColumns(t *testing.T, e []api.Node, names ...string) {
	t.Helper()
	if got := expr.Columns(e); !slices.Equal(got, names) {
		t.Errorf("Columns(%+v) is %q, not %q", few(e), got, names)
	}
}

// wantRename reports an error unless Rename of e is want.
func wantRename(t *testing.T, e []api.Node, from, to []string, want []api.Node) {
	t.Helper()
	if got := expr.Rename(e, from, to); !slices.Equal(got, want) {
		t.Errorf("Rename(%+v, %q, %q) is %+v, not %+v", few(e), from, to, few(got), few(want))
	}
}

// columns returns nodes of columns.
func columns(names string) []api.Node {
	var l []api.Node
	for _, s := range strings.Fields(names) {
		l = append(l, column(s))
	}
	return l
}

// P8.7: ascending, each name once, of columns only.
func TestColumns(t *testing.T) {
	wantColumns(t, nil)
	wantColumns(t, []api.Node{})
	wantColumns(t, list(number(1)))
	wantColumns(t, columns("a"), "a")
	wantColumns(t, columns("a a"), "a")
	wantColumns(t, columns("b a"), "a", "b")
	wantColumns(t, columns("b a b c a b b"), "a", "b", "c")
	wantColumns(t, columns("b ab a_b aa a a1 ba"), "a", "a1", "a_b", "aa", "ab", "b", "ba")
	wantColumns(t, list(column("b"), column("a"), op(api.OpAdd), call("z", 1), day("c"), column("b"), text("d")), "a", "b")
	wantColumns(t, slices.Repeat(columns("c a b a"), 5000), "a", "b", "c")
}

// P8.7: any nodes, in any list.
func TestColumnsOfAnyNodes(t *testing.T) {
	odd := list(column(""), column("A B"), column("a.b"), column("self"), column("\xff"), column(strings.Repeat("n", 100)), api.Node{Op: -1, Name: "x"}, api.Node{Op: 22, Name: "y"}, api.Node{Op: api.OpNot, Name: "v"}, api.Node{Op: api.OpConst, Name: "w"})
	wantColumns(t, odd, "", "A B", "a.b", strings.Repeat("n", 100), "self", "\xff")
	wantColumns(t, list(api.Node{Op: api.OpColumn, Name: "a", Arity: 5, Value: api.Value{Kind: 9}}), "a")
	for _, n := range kinds() {
		n.Name = "k"
		if n.Op != api.OpColumn {
			wantColumns(t, list(n, column("c")), "c")
		}
	}
}

// P8.7: all columns with a name, and no other nodes.
func TestRename(t *testing.T) {
	wantRename(t, nil, []string{"a"}, []string{"b"}, nil)
	wantRename(t, []api.Node{}, nil, nil, nil)
	wantRename(t, columns("a b a c"), []string{"a"}, []string{"x"}, columns("x b x c"))
	wantRename(t, columns("a b a c"), []string{"c", "a", "d"}, []string{"x", "y", "z"}, columns("y b y x"))
	wantRename(t, columns("a b a c"), []string{"d"}, []string{"x"}, columns("a b a c"))
	wantRename(t, list(column("a"), call("a", 1), day("a"), text("a"), op(api.OpAdd)), []string{"a"}, []string{"b"}, list(column("b"), call("a", 1), day("a"), text("a"), op(api.OpAdd)))
	// A new name is not replaced again.
	wantRename(t, columns("a b c"), []string{"a", "b", "c"}, []string{"b", "c", "a"}, columns("b c a"))
	wantRename(t, columns("a b"), []string{"a", "b"}, []string{"a", "a"}, columns("a a"))
	wantRename(t, slices.Repeat(columns("a b"), 5000), []string{"b"}, []string{"c"}, slices.Repeat(columns("a c"), 5000))
}

// P8.7: lists of different lengths.
func TestRenameLengths(t *testing.T) {
	e := columns("a b c")
	for _, names := range [][]string{nil, {}, {"x"}, {"x", "y", "z", "w"}} {
		wantRename(t, e, nil, names, e)
		wantRename(t, e, []string{}, names, e)
		wantRename(t, e, names, nil, e)
		wantRename(t, e, names, []string{}, e)
	}
	wantRename(t, e, []string{"a", "b", "c"}, []string{"x"}, columns("x b c"))
	wantRename(t, e, []string{"a", "b", "c"}, []string{"x", "y"}, columns("x y c"))
	wantRename(t, e, []string{"a", "b"}, []string{"x", "y", "z"}, columns("x y c"))
	wantRename(t, e, []string{"d", "b"}, []string{"x"}, e)
}

// P8.7: the first one of equal elements counts, also where to has another one.
func TestRenameEqualElements(t *testing.T) {
	e := columns("a b c")
	wantRename(t, e, []string{"a", "a"}, []string{"x", "y"}, columns("x b c"))
	wantRename(t, e, []string{"b", "a", "a", "b"}, []string{"x", "y", "z", "w"}, columns("y x c"))
	wantRename(t, e, []string{"b", "z", "b", "a", "c"}, []string{"x", "y", "w"}, columns("a x c"))
	wantRename(t, e, []string{"c", "c", "a"}, []string{"x", "x", "x"}, columns("x b x"))
}

// P8.7: any nodes and names; all other fields stay.
func TestRenameOfAnyNodes(t *testing.T) {
	odd := api.Node{Op: api.OpColumn, Name: "", Arity: 7, Value: api.Value{Kind: 9, Num: -1, Str: "s"}}
	want := odd
	want.Name = "A B"
	wantRename(t, list(odd, op(-1), op(99)), []string{""}, []string{"A B"}, list(want, op(-1), op(99)))
	wantRename(t, list(want), []string{"A B"}, []string{""}, list(odd))
	for _, n := range append(kinds(), op(-1), op(22)) {
		n.Name = "k"
		if n.Op != api.OpColumn {
			wantRename(t, list(n, column("k")), []string{"k", ""}, []string{"x", "y"}, list(n, column("x")))
		}
	}
}
