package token_test

import (
	"slices"
	"testing"

	"warehouse/api"
	"warehouse/token"
)

// R2 and R3 for P7.3: a result shares no memory with another one.
func TestSplitResultsAreNew(t *testing.T) {
	const s = "a + 'it''s' * 12"
	first, _, _ := token.Split(s)
	second, _, _ := token.Split(s)
	want := slices.Clone(first)
	clear(first[:cap(first)])
	third, _, _ := token.Split(s)
	if len(want) != 6 || !slices.Equal(second, want) || !slices.Equal(third, want) {
		t.Errorf("%+v, %+v, not %+v", second, third, want)
	}
}

// R2 for P7.2 and P7.4: the argument and its spare capacity stay.
func TestArgumentsStay(t *testing.T) {
	all := list(name("a.b", 9), symbol("(", 8), number(12, 7), text("it's", 6), moment(1441, 5), end(4), name("c", 3), end(2))
	want := slices.Clone(all)
	for size := range len(all) + 1 {
		first, err := token.Join(all[:size])
		second, again := token.Join(all[:size])
		if first != second || err != again || err != token.Validate(all[:size]) || (err == api.OK) != (size == 6) {
			t.Errorf("%d tokens: %q, %d, %q, %d", size, first, err, second, again)
		}
	}
	if !slices.Equal(all, want) {
		t.Errorf("%+v, not %+v", all, want)
	}
}
