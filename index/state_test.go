package index

import (
	"strconv"
	"testing"

	"bitext/api"
)

// P15.3: nothing remains of lists that were removed, or that were not stored, so
// an index does not grow with the calls.
func TestNothingRemains(t *testing.T) {
	x := New()
	words := func(l ...string) []api.Token {
		var tokens []api.Token
		for _, s := range l {
			tokens = append(tokens, api.Token{Kind: api.Word, Text: s})
		}
		return tokens
	}
	x.Add(-1, words("a", "b"))
	for i := range 100 {
		n := strconv.Itoa(i)
		x.Add(i, words("a", "b", n))
		x.Add(i, words("a", n, "c", n))
		x.Candidates(words("b", n, "d"), 50)
		x.Remove(i)
		x.Remove(i)
	}
	if len(x.lists) != 1 || len(x.holders) != 3 {
		t.Errorf("an index of one list with three pairs holds %d lists and %d pairs", len(x.lists), len(x.holders))
	}
	for p, ids := range x.holders {
		if len(ids) != 1 || ids[-1] != 1 {
			t.Errorf("the pair %q is held by %v", p, ids)
		}
	}
	x.Remove(-1)
	if len(x.lists) != 0 || len(x.holders) != 0 {
		t.Errorf("an empty index holds %d lists and %d pairs", len(x.lists), len(x.holders))
	}
}
