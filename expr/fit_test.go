package expr

import (
	"strings"
	"testing"

	"warehouse/api"
)

// P8.6: texts of MaxSource bytes and of one more. No expression of MaxNodes
// nodes has a text that is so long, so that only this test sees the error.
func TestFit(t *testing.T) {
	for size, want := range map[int]api.Errno{0: api.OK, 1: api.OK, api.MaxSource - 1: api.OK, api.MaxSource: api.OK, api.MaxSource + 1: api.ErrLimit, 2 * api.MaxSource: api.ErrLimit} {
		s := strings.Repeat("a", size)
		got, err := fit(s)
		if err != want || err == api.OK && got != s || err != api.OK && got != "" {
			t.Errorf("%d bytes: %d bytes, %d", size, len(got), err)
		}
	}
}
