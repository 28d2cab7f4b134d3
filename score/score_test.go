package score_test

import (
	"math"
	"slices"
	"strings"
	"testing"

	"bitext/api"
	"bitext/distance"
	"bitext/score"
	"bitext/token"
)

// tok is a token of any kind.
func tok(kind int, s string, n int) api.Token { return api.Token{Kind: kind, Text: s, ID: n} }

func word(s string) api.Token { return tok(api.Word, s, 0) }

func number(s string) api.Token { return tok(api.Number, s, 0) }

func blank(s string) api.Token { return tok(api.Blank, s, 0) }

func sign(s string) api.Token { return tok(api.Sign, s, 0) }

func slot(s string) api.Token { return tok(api.Slot, s, 0) }

func open(n int, s string) api.Token { return tok(api.Open, s, n) }

func shut(n int, s string) api.Token { return tok(api.Close, s, n) }

func empty(n int, s string) api.Token { return tok(api.Empty, s, n) }

// list is a list of tokens.
func list(l ...api.Token) []api.Token { return l }

// of returns the tokens of a text.
func of(s string) []api.Token { return token.Tokens([]api.Item{{Kind: api.Text, Text: s}}) }

// times is a list of n tokens that are x.
func times(n int, x api.Token) []api.Token { return slices.Repeat(list(x), n) }

// otherKinds are the kinds that no token of a fragment has, below, between and
// above those that one has.
var otherKinds = []int{math.MinInt, math.MinInt32, -9, -6, -2, -1, 0, api.Text, api.Sign + 1, 256 + api.Word, 256 + api.Open, 1<<32 + api.Word, 1<<32 + api.Open, math.MaxInt}

// weights are the weights of the kinds from Open to Sign.
var weights = map[int]int{api.Open: 3, api.Close: 3, api.Empty: 3, api.Slot: 4, api.Word: 4, api.Number: 3, api.Blank: 1, api.Sign: 2}

// checkTotal checks the total of two lists, in both directions.
func checkTotal(t *testing.T, a, b []api.Token, want int) {
	t.Helper()
	if got := score.Total(a, b); got != want {
		t.Errorf("Total(%v, %v) = %d, not %d", a, b, got, want)
	}
	if got := score.Total(b, a); got != want {
		t.Errorf("Total(%v, %v) = %d, not %d", b, a, got, want)
	}
}

// checkPercent checks the percentage of two lists, in both directions, and the
// total and the distance from which it is computed.
func checkPercent(t *testing.T, a, b []api.Token, total, apart, want int) {
	t.Helper()
	checkTotal(t, a, b, total)
	if got := distance.Distance(a, b); got != apart {
		t.Errorf("Distance(%v, %v) = %d, not %d", a, b, got, apart)
	}
	if got := score.Percent(a, b); got != want {
		t.Errorf("Percent(%v, %v) = %d, not %d", a, b, got, want)
	}
	if got := score.Percent(b, a); got != want {
		t.Errorf("Percent(%v, %v) = %d, not %d", b, a, got, want)
	}
}

// P13.1: the list with the greater weight decides, not the longer one and not the
// first one.
func TestTotal(t *testing.T) {
	checkTotal(t, nil, nil, 0)
	checkTotal(t, nil, list(), 0)
	checkTotal(t, of("red car"), of("Red cars"), 9)
	checkTotal(t, of("red car"), nil, 9)
	checkTotal(t, of("red car"), of("car"), 9)
	checkTotal(t, of("a"), of("..."), 6)
	checkTotal(t, of("a"), list(blank(" "), blank(" "), blank(" ")), 4)
	checkTotal(t, of("Don't pay 1,000.50 now!"), of("Pay!"), 20)
	checkTotal(t, list(open(1, "b"), shut(1, "b")), of("a"), 6)
	checkTotal(t, list(empty(1, "br")), list(slot("n")), 4)
	for kind, weight := range weights {
		for n := range 5 {
			for m := range 5 {
				checkTotal(t, times(n, tok(kind, "a", 1)), times(m, tok(kind, "b", 2)), weight*max(n, m))
				checkTotal(t, times(n, tok(kind, "a", 1)), times(m, blank(" ")), max(weight*n, m))
			}
		}
	}
	for _, kind := range otherKinds {
		l := times(9, tok(kind, "a", 1))
		checkTotal(t, l, nil, 0)
		checkTotal(t, l, l, 0)
		checkTotal(t, l, of(" "), 1)
		checkTotal(t, slices.Concat(l, of("a"), l), of("..."), 6)
		checkTotal(t, slices.Concat(l, of("a"), l), of("."), 4)
	}
}

// P13.2: ordinary lists, and the chapter's examples.
func TestPercentOrdinary(t *testing.T) {
	checkPercent(t, of("red car"), of("Red cars"), 9, 5, 44)
	checkPercent(t, of("red car"), of("red car"), 9, 0, 100)
	checkPercent(t, of("red car"), of("car red"), 9, 8, 11)
	checkPercent(t, of("a b c"), of("a b"), 14, 5, 64)
	checkPercent(t, of("a b"), of("a\nb"), 9, 1, 88)
	checkPercent(t, of("A"), of("a"), 4, 1, 75)
	checkPercent(t, of("a."), of("a!"), 6, 2, 66)
	checkPercent(t, of("Pay now"), of("pay now!"), 11, 3, 72)
	checkPercent(t, of("Pay 1,000 now!"), of("Pay 1000 now!"), 15, 3, 80)
	checkPercent(t, of("one two three four"), of("one two three five"), 19, 4, 78)
	checkPercent(t, of("one two three four"), of("One two three five"), 19, 5, 73)
	checkPercent(t, list(word("a"), slot("n")), list(word("a"), slot("m")), 8, 4, 50)
	checkPercent(t, list(open(1, "b"), word("x")), list(word("x")), 7, 3, 57)
	checkPercent(t, list(open(1, "b"), word("x")), list(word("x"), open(1, "b")), 7, 2, 71)
	checkPercent(t, list(open(1, "b"), word("x"), shut(1, "b")), list(open(2, "b"), word("X"), shut(2, "b")), 10, 1, 90)
	checkPercent(t, list(open(1, "b"), word("x"), shut(1, "b")), list(open(1, "i"), word("x"), shut(1, "i")), 10, 12, 0)
}

// P13.2: empty lists.
func TestPercentEmpty(t *testing.T) {
	checkPercent(t, nil, nil, 0, 0, 100)
	checkPercent(t, nil, list(), 0, 0, 100)
	checkPercent(t, list(), list(), 0, 0, 100)
	checkPercent(t, nil, of("a"), 4, 4, 0)
	checkPercent(t, list(), of("red car"), 9, 9, 0)
	for kind, weight := range weights {
		checkPercent(t, nil, list(tok(kind, "", 0)), weight, weight, 0)
		checkPercent(t, nil, times(40, tok(kind, "a", 1)), 40*weight, 40*weight, 0)
	}
}

// P13.2: lists of tags alone.
func TestPercentTags(t *testing.T) {
	b, i, u := open(1, "b"), open(2, "i"), open(3, "u")
	checkPercent(t, list(b), list(b), 3, 0, 100)
	checkPercent(t, list(b), list(open(9, "b")), 3, 0, 100)
	checkPercent(t, list(b), list(i), 3, 6, 0)
	checkPercent(t, list(b), list(shut(1, "b")), 3, 6, 0)
	checkPercent(t, list(b), list(empty(1, "b")), 3, 6, 0)
	checkPercent(t, list(b, b), list(b), 6, 3, 50)
	checkPercent(t, list(b, b, b), list(b), 9, 6, 33)
	checkPercent(t, list(b, i), list(i, b), 6, 2, 66)
	checkPercent(t, list(b, shut(1, "b")), list(shut(1, "b"), b), 6, 2, 66)
	checkPercent(t, list(b, i, u), list(u, i, b), 9, 4, 55)
	checkPercent(t, list(b, i, u), list(b, u), 9, 3, 66)
	checkPercent(t, list(b, i, u), list(u, b), 9, 5, 44)
	checkPercent(t, list(b, i), list(u, u), 6, 12, 0)
	checkPercent(t, list(empty(1, "br"), empty(2, "br"), empty(3, "hr"), empty(4, "br")), list(empty(1, "br"), empty(2, "br"), empty(3, "br"), empty(4, "hr")), 12, 2, 83)
}

// P13.2: the distance is as great as the total, a little less, or greater.
func TestPercentFarApart(t *testing.T) {
	checkPercent(t, of("a"), of("b"), 4, 4, 0)
	checkPercent(t, of("1"), of("2"), 3, 3, 0)
	checkPercent(t, of(" "), of("\n"), 1, 1, 0)
	checkPercent(t, of("."), of("!"), 2, 2, 0)
	checkPercent(t, list(slot("n")), list(slot("m")), 4, 4, 0)
	checkPercent(t, of("1"), of("a"), 4, 7, 0)
	checkPercent(t, of("."), of("a"), 4, 6, 0)
	checkPercent(t, of(" "), of("."), 2, 3, 0)
	checkPercent(t, list(slot("n")), list(word("n")), 4, 8, 0)
	checkPercent(t, list(open(1, "b")), list(slot("b")), 4, 7, 0)
	checkPercent(t, times(50, word("a")), times(50, word("b")), 200, 200, 0)
	checkPercent(t, times(50, word("a")), times(50, slot("a")), 200, 400, 0)
	checkPercent(t, times(50, word("a")), times(50, word("A")), 200, 50, 75)
	checkPercent(t, times(50, open(1, "b")), times(50, open(1, "i")), 150, 300, 0)
	near := slices.Concat(times(50, word("a")), list(blank(" ")))
	checkPercent(t, near, slices.Concat(times(50, word("b")), list(blank(" "))), 201, 200, 0)
	checkPercent(t, near, slices.Concat(times(50, word("b")), list(blank("\n"))), 201, 201, 0)
	checkPercent(t, near, slices.Concat(times(49, word("b")), list(word("A"), blank("\n"))), 201, 198, 1)
	checkPercent(t, near, slices.Concat(times(50, slot("b")), list(blank(" "))), 201, 400, 0)
}

// P13.2: percentages that come out whole, and those that are a little less than
// the next one.
func TestPercentRounding(t *testing.T) {
	words := times(25, word("a"))
	for changed := range 26 {
		l := slices.Concat(times(changed, word("b")), words[changed:])
		checkPercent(t, words, l, 100, 4*changed, 100-4*changed)
		l = slices.Concat(words[:25-changed], times(changed, word("A")))
		checkPercent(t, words, l, 100, changed, 100-changed)
	}
	for n, want := range map[int]int{1: 0, 2: 50, 3: 66, 4: 75, 6: 83, 7: 85, 33: 96, 34: 97, 49: 97, 50: 98, 51: 98, 99: 98, 100: 99, 101: 99, 400: 99, 1000: 99} {
		checkPercent(t, times(n, word("a")), slices.Concat(times(n-1, word("a")), list(word("b"))), 4*n, 4, want)
	}
	for n, want := range map[int]int{1: 75, 24: 98, 25: 99, 26: 99, 250: 99, 1000: 99} {
		checkPercent(t, times(n, word("a")), slices.Concat(list(word("A")), times(n-1, word("a"))), 4*n, 1, want)
	}
	for n, want := range map[int]int{1: 100, 2: 50, 3: 33, 99: 1, 100: 1, 101: 0, 1000: 0} {
		checkPercent(t, times(n, blank(" ")), list(blank(" ")), n, n-1, want)
	}
}

// P13.2: one token is added, replaced, moved or written in another case.
func TestPercentOneTokenApart(t *testing.T) {
	for n := range 60 {
		text := times(n, word("a"))
		for kind, weight := range weights {
			x, y := list(tok(kind, "x", 1)), list(tok(kind, "y", 1))
			total, replaced := 4*n+weight, weight
			if kind <= api.Empty {
				replaced = 2 * weight
			}
			for _, at := range []int{0, n / 2, n} {
				with := slices.Concat(text[:at], x, text[at:])
				checkPercent(t, with, text, total, weight, 400*n/total)
				checkPercent(t, with, slices.Concat(text[:at], y, text[at:]), total, replaced, max(100*(total-replaced), 0)/total)
				if kind <= api.Empty && at > 0 {
					checkPercent(t, with, slices.Concat(x, text), total, 2, 100*(total-2)/total)
				}
				if kind == api.Word {
					checkPercent(t, with, slices.Concat(text[:at], list(word("X")), text[at:]), total, 1, 100*(total-1)/total)
				}
			}
		}
	}
}

// P13.1, P13.2: tokens of other kinds have no weight and cost nothing.
func TestPercentOtherKinds(t *testing.T) {
	pairs := [][2][]api.Token{{nil, nil}, {nil, of("a")}, {of("red car"), of("Red cars")}, {list(open(1, "b")), list(open(1, "i"))}, {of("a b c"), of("a b")}, {of("same"), of("same")}}
	for _, kind := range otherKinds {
		x, y := tok(kind, "x", 1), tok(kind, "y", 2)
		checkPercent(t, list(x), nil, 0, 0, 100)
		checkPercent(t, list(x), list(x), 0, 0, 100)
		checkPercent(t, list(x, y), list(y, x, x), 0, 0, 100)
		checkPercent(t, list(x), of("a"), 4, 4, 0)
		checkPercent(t, list(x), list(tok(0, "x", 1), tok(api.Text, "x", 1)), 0, 0, 100)
		for _, p := range pairs {
			a, b := slices.Concat(times(3, x), p[0], list(y)), slices.Concat(list(y, x), p[1])
			checkPercent(t, a, b, score.Total(p[0], p[1]), distance.Distance(p[0], p[1]), score.Percent(p[0], p[1]))
			checkPercent(t, a, p[1], score.Total(p[0], p[1]), distance.Distance(p[0], p[1]), score.Percent(p[0], p[1]))
		}
	}
}

// P13.3: every total at a border with every percentage at one.
func TestAllowedBorders(t *testing.T) {
	most := api.MaxInt
	percents := []int{math.MinInt, -api.MaxInt - 1, -101, -100, -99, -1, 0, 1, 2, 50, 99, 100, 101, 102, 200, api.MaxInt, api.MaxInt + 1, math.MaxInt}
	nothing := []int{most, most, most, most, most, most, most, most, most, most, most, most, -1, -1, -1, -1, -1, -1}
	row := func(one, two, half, almost int) []int {
		return []int{most, most, most, most, most, most, most, one, two, half, almost, 0, -1, -1, -1, -1, -1, -1}
	}
	great := row(1063004405, 1052266987, 536870912, 10737418)
	for total, want := range map[int][]int{
		math.MinInt:    nothing,
		-api.MaxInt:    nothing,
		-100:           nothing,
		-1:             nothing,
		0:              nothing,
		1:              row(0, 0, 0, 0),
		2:              row(1, 1, 1, 0),
		3:              row(2, 2, 1, 0),
		9:              row(8, 8, 4, 0),
		49:             row(48, 48, 24, 0),
		50:             row(49, 49, 25, 0),
		51:             row(50, 49, 25, 0),
		99:             row(98, 97, 49, 0),
		100:            row(99, 98, 50, 1),
		101:            row(99, 98, 50, 1),
		199:            row(197, 195, 99, 1),
		200:            row(198, 196, 100, 2),
		api.MaxInt - 1: row(1063004404, 1052266986, 536870911, 10737418),
		api.MaxInt:     great,
		api.MaxInt + 1: great,
		1<<31 - 1:      great,
		1 << 32:        great,
		1 << 60:        great,
		math.MaxInt:    great,
	} {
		for i, percent := range percents {
			if got := score.Allowed(total, percent); got != want[i] {
				t.Errorf("Allowed(%d, %d) = %d, not %d", total, percent, got, want[i])
			}
		}
	}
	for _, x := range [][3]int{{9, 44, 5}, {9, 45, 4}, {9, 101, -1}} {
		if got := score.Allowed(x[0], x[1]); got != x[2] {
			t.Errorf("Allowed(%d, %d) = %d, not %d", x[0], x[1], got, x[2])
		}
	}
}

// checkContext checks the number of equal contexts.
func checkContext(t *testing.T, e api.Entry, q api.Query, want int) {
	t.Helper()
	if got := score.Context(e, q); got != want {
		t.Errorf("Context of %q, %q and %q, %q = %d, not %d", e.Previous, e.Next, q.Previous, q.Next, got, want)
	}
}

// P13.4: every choice of some contexts on both sides.
func TestContextEveryFour(t *testing.T) {
	contexts := []string{"", "a", "A", "a ", " a", "ab", "b", "<1:b>ab</1:b>", "<2:b>ab</2:b>", "é", "\xff", "\x00", strings.Repeat("a", 1000)}
	for _, previous := range contexts {
		for _, next := range contexts {
			for _, before := range contexts {
				for _, after := range contexts {
					want := 0
					if len(previous) > 0 && strings.Compare(previous, before) == 0 {
						want++
					}
					if len(next) > 0 && strings.Compare(next, after) == 0 {
						want++
					}
					checkContext(t, api.Entry{Previous: previous, Next: next}, api.Query{Previous: before, Next: after}, want)
				}
			}
		}
	}
}

// P13.4: the cases that the chapter names.
func TestContextCases(t *testing.T) {
	for _, x := range []struct {
		previous, next string // of the entry
		before, after  string // of the query
		want           int
	}{
		{"", "", "", "", 0},
		{"a", "b", "a", "b", 2},
		{"a", "a", "a", "a", 2},
		{"a", "b", "a", "c", 1},
		{"a", "b", "c", "b", 1},
		{"a", "b", "c", "d", 0},
		{"a", "b", "b", "a", 0},
		{"a", "b", "b", "b", 1},
		{"a", "", "", "a", 0},
		{"", "b", "b", "", 0},
		{"", "b", "", "b", 1},
		{"a", "", "a", "", 1},
		{"a", "", "a", "b", 1},
		{"", "b", "a", "b", 1},
		{"a", "b", "a", "", 1},
		{"a", "b", "", "b", 1},
		{"a", "b", "", "", 0},
		{"", "", "a", "b", 0},
		{"a", "", "", "", 0},
		{"", "", "", "b", 0},
	} {
		checkContext(t, api.Entry{Previous: x.previous, Next: x.next}, api.Query{Previous: x.before, Next: x.after}, x.want)
	}
}

// P13.4: nothing but the contexts counts.
func TestContextAlone(t *testing.T) {
	source, target := []api.Item{{Kind: api.Text, Text: "a"}}, []api.Item{{Kind: 0, Text: "b"}}
	e := api.Entry{Source: source, Target: target, Previous: "p", Next: "n", Author: "p", Project: "n", Created: 7, Origin: api.Machine}
	q := api.Query{Source: target, Previous: "p", Next: "n", Now: -7, Threshold: 101, Most: -1}
	checkContext(t, e, q, 2)
	checkContext(t, e, api.Query{Source: source, Previous: "p"}, 1)
	checkContext(t, e, api.Query{Source: source, Next: "n", Threshold: 100, Most: 100}, 1)
	checkContext(t, e, api.Query{Source: source, Now: 7}, 0)
	e.Previous, e.Next = "", ""
	checkContext(t, e, q, 0)
	checkContext(t, e, api.Query{Source: source}, 0)
}
