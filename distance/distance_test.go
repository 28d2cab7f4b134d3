package distance_test

import (
	"math"
	"runtime"
	"slices"
	"testing"

	"bitext/api"
	"bitext/distance"
	"bitext/token"
)

// tok is a token of any kind.
func tok(kind int, s string, n int) api.Token { return api.Token{Kind: kind, Text: s, ID: n} }

func word(s string) api.Token { return tok(api.Word, s, 0) }

func number(s string) api.Token { return tok(api.Number, s, 0) }

func blank(s string) api.Token { return tok(api.Blank, s, 0) }

func sign(s string) api.Token { return tok(api.Sign, s, 0) }

func slot(s string) api.Token { return tok(api.Slot, s, 0) }

func open(n int, s string) api.Token { return tok(api.Open, s, n) }

func shut(n int, s string) api.Token { return tok(api.Close, s, n) }

func empty(n int, s string) api.Token { return tok(api.Empty, s, n) }

// list is a list of tokens.
func list(l ...api.Token) []api.Token { return l }

// of returns the tokens of a text.
func of(s string) []api.Token { return token.Tokens([]api.Item{{Kind: api.Text, Text: s}}) }

// pair, drop and add are the edits of scripts.
func pair(a, b int) api.Edit { return api.Edit{A: a, B: b} }

func drop(a int) api.Edit { return api.Edit{A: a, B: -1} }

func add(b int) api.Edit { return api.Edit{A: -1, B: b} }

// edits is a list of edits.
func edits(l ...api.Edit) []api.Edit { return l }

// otherKinds are the kinds that no token of a fragment has, below, between and
// above those that one has.
var otherKinds = []int{math.MinInt, math.MinInt32, -9, -6, -2, -1, 0, api.Text, api.Sign + 1, 256 + api.Word, 256 + api.Open, 1<<32 + api.Word, 1<<32 + api.Open, math.MaxInt}

// weights are the weights of the kinds from Open to Sign.
var weights = map[int]int{api.Open: 3, api.Close: 3, api.Empty: 3, api.Slot: 4, api.Word: 4, api.Number: 3, api.Blank: 1, api.Sign: 2}

// everyKind returns all kinds, those of tokens first.
func everyKind() []int {
	var kinds []int
	for kind := api.Open; kind <= api.Sign; kind++ {
		kinds = append(kinds, kind)
	}
	return append(kinds, otherKinds...)
}

// checkCost checks a pair in both directions.
func checkCost(t *testing.T, a, b api.Token, want int, can bool) {
	t.Helper()
	if got, ok := distance.Cost(a, b); got != want || ok != can {
		t.Errorf("Cost(%v, %v) = %d, %v, not %d, %v", a, b, got, ok, want, can)
	}
	if got, ok := distance.Cost(b, a); got != want || ok != can {
		t.Errorf("Cost(%v, %v) = %d, %v, not %d, %v", b, a, got, ok, want, can)
	}
}

// P12.1: every two kinds, with the same and with other texts, with texts that
// differ in their case, and with other numbers.
func TestCostEveryTwoKinds(t *testing.T) {
	folded := map[string]string{"": "", "a": "a", "A": "a", "b": "b", "aB-1": "ab-1", "Ab-1": "ab-1", "é": "é", "É": "É", " ": " ", "1": "1", "[": "[", "{": "{", "@": "@", "`": "`"}
	numbers := []int{math.MinInt, -1, 0, 1, 2, math.MaxInt}
	for _, kind := range everyKind() {
		for _, second := range everyKind() {
			for s, small := range folded {
				for u, smallU := range folded {
					want, can := 0, false
					switch {
					case kind != second:
					case s == u:
						can = true
					case kind == api.Word && small == smallU:
						want, can = 1, true
					case kind >= api.Slot && kind <= api.Sign:
						want, can = weights[kind], true
					}
					for i, n := range numbers {
						checkCost(t, tok(kind, s, n), tok(second, u, n), want, can)
						checkCost(t, tok(kind, s, n), tok(second, u, numbers[(i+1)%len(numbers)]), want, can)
					}
				}
			}
		}
	}
}

// P12.1: ordinary pairs.
func TestCostPairs(t *testing.T) {
	checkCost(t, word("car"), word("car"), 0, true)
	checkCost(t, word("car"), word("Car"), 1, true)
	checkCost(t, word("CAR"), word("cAr"), 1, true)
	checkCost(t, word("car"), word("cars"), 4, true)
	checkCost(t, word("car"), word("Cars"), 4, true)
	checkCost(t, word("Äpfel"), word("äpfel"), 4, true)
	checkCost(t, word("ÄPFEL"), word("Äpfel"), 1, true)
	checkCost(t, number("1,000"), number("1000"), 3, true)
	checkCost(t, number("1a"), number("1A"), 3, true)
	checkCost(t, blank(" "), blank("\n"), 1, true)
	checkCost(t, sign("."), sign("!"), 2, true)
	checkCost(t, slot("n"), slot("N"), 4, true)
	checkCost(t, slot("n"), slot("n"), 0, true)
	checkCost(t, open(1, "b"), open(2, "b"), 0, true)
	checkCost(t, open(1, "b"), open(1, "B"), 0, false)
	checkCost(t, open(1, "b"), shut(1, "b"), 0, false)
	checkCost(t, open(1, "b"), empty(1, "b"), 0, false)
	checkCost(t, shut(1, "b"), empty(1, "b"), 0, false)
	checkCost(t, slot("b"), empty(1, "b"), 0, false)
	checkCost(t, word("1"), number("1"), 0, false)
	checkCost(t, sign("-"), blank("-"), 0, false)
	checkCost(t, api.Token{}, api.Token{}, 0, true)
	checkCost(t, api.Token{}, tok(0, "a", 0), 0, false)
	checkCost(t, api.Token{}, word(""), 0, false)
}

// checkPrice checks the price of a script.
func checkPrice(t *testing.T, a, b []api.Token, script []api.Edit, want int) {
	t.Helper()
	if got, ok := distance.Price(a, b, script); got != want || !ok {
		t.Errorf("Price(%v, %v, %v) = %d, %v, not %d", a, b, script, got, ok, want)
	}
}

// P12.2: ordinary scripts, and those from and to empty lists.
func TestPriceScripts(t *testing.T) {
	checkPrice(t, nil, nil, nil, 0)
	checkPrice(t, list(), list(), edits(), 0)
	checkPrice(t, of("a b"), nil, edits(drop(0), drop(1), drop(2)), 9)
	checkPrice(t, nil, of("a b"), edits(add(0), add(1), add(2)), 9)
	checkPrice(t, of("red car"), of("Red cars"), edits(pair(0, 0), pair(1, 1), pair(2, 2)), 5)
	checkPrice(t, of("red car"), of("Red cars"), edits(drop(0), add(0), pair(1, 1), pair(2, 2)), 12)
	checkPrice(t, of("red car"), of("Red cars"), edits(add(0), drop(0), pair(1, 1), drop(2), add(2)), 16)
	checkPrice(t, of("a"), of("a"), edits(drop(0), add(0)), 8)
	checkPrice(t, of("a"), of("a"), edits(add(0), drop(0)), 8)
	checkPrice(t, of("1"), of("a"), edits(add(0), drop(0)), 7)
	checkPrice(t, of("a b"), of("b a"), edits(drop(0), drop(1), pair(2, 0), add(1), add(2)), 10)
	checkPrice(t, of("1. 2"), of("2."), edits(pair(0, 0), pair(1, 1), drop(2), drop(3)), 7)
	checkPrice(t, list(slot("n"), sign("!")), list(sign("?"), slot("m")), edits(drop(0), pair(1, 0), add(1)), 10)
	// Of every kind: one token is dropped, one added, one paired.
	for kind, weight := range weights {
		l := list(tok(kind, "a", 1), tok(kind, "b", 2))
		if kind >= api.Slot {
			checkPrice(t, l, l, edits(pair(0, 0), pair(1, 1)), 0)
			checkPrice(t, l, l, edits(drop(0), pair(1, 0), add(1)), 3*weight)
			checkPrice(t, l, l, edits(add(0), pair(0, 1), drop(1)), 3*weight)
			checkPrice(t, l, l, edits(drop(0), drop(1), add(0), add(1)), 4*weight)
		} else {
			checkPrice(t, l, l, edits(pair(0, 0), pair(1, 1)), 0)
			checkPrice(t, l, l, edits(drop(0), drop(1), add(0), add(1)), 4)
			checkPrice(t, l, l, edits(pair(0, 0), add(1), drop(1)), 2)
		}
		checkPrice(t, l, nil, edits(drop(0), drop(1)), 2*weight)
		checkPrice(t, nil, l, edits(add(0), add(1)), 2*weight)
	}
	for _, kind := range otherKinds {
		l := list(tok(kind, "a", 1), tok(kind, "b", 2), tok(kind, "a", 3))
		checkPrice(t, l, l, edits(pair(0, 0), pair(1, 1), pair(2, 2)), 0)
		checkPrice(t, l, l, edits(drop(0), drop(1), pair(2, 0), add(1), add(2)), 0)
		checkPrice(t, l, nil, edits(drop(0), drop(1), drop(2)), 0)
		checkPrice(t, nil, l, edits(add(0), add(1), add(2)), 0)
		checkPrice(t, l, of("b"), edits(drop(0), drop(1), add(0), drop(2)), 4)
	}
}

// P12.2: the same tag deleted, inserted and paired any number of times, in any
// order, alone and beside others.
func TestPriceTags(t *testing.T) {
	for _, kind := range []int{api.Open, api.Close, api.Empty} {
		for dropped := range 5 {
			for added := range 5 {
				for paired := range 3 {
					var a, b []api.Token
					var script, mirror []api.Edit
					for i := range dropped + paired {
						a = append(a, tok(kind, "b", i))
					}
					for i := range added + paired {
						b = append(b, tok(kind, "b", 100-i))
					}
					for i := range max(dropped, added) {
						if i < dropped {
							script = append(script, drop(i))
						}
						if i < added {
							script = append(script, add(i))
						}
					}
					for i := range paired {
						script = append(script, pair(dropped+i, added+i))
					}
					for i := range added {
						mirror = append(mirror, add(i))
					}
					for i := range dropped {
						mirror = append(mirror, drop(i))
					}
					mirror = append(mirror, script[dropped+added:]...)
					want := 2*min(dropped, added) + 3*(max(dropped, added)-min(dropped, added))
					checkPrice(t, a, b, script, want)
					checkPrice(t, a, b, mirror, want)
				}
			}
		}
	}
	// Tags that differ in anything but the number are not moved.
	checkPrice(t, list(open(1, "b")), list(open(2, "b")), edits(drop(0), add(0)), 2)
	checkPrice(t, list(open(1, "b")), list(open(1, "i")), edits(drop(0), add(0)), 6)
	checkPrice(t, list(open(1, "b")), list(open(1, "B")), edits(drop(0), add(0)), 6)
	checkPrice(t, list(open(1, "b")), list(shut(1, "b")), edits(drop(0), add(0)), 6)
	checkPrice(t, list(open(1, "b")), list(empty(1, "b")), edits(add(0), drop(0)), 6)
	checkPrice(t, list(empty(1, "b")), list(shut(1, "b")), edits(add(0), drop(0)), 6)
	checkPrice(t, list(open(1, "b"), shut(1, "b")), list(shut(1, "b"), open(1, "b")), edits(drop(0), drop(1), add(0), add(1)), 4)
	checkPrice(t, list(open(1, "b"), shut(1, "b")), list(shut(1, "b"), open(1, "i")), edits(drop(0), drop(1), add(0), add(1)), 8)
	checkPrice(t, list(open(1, "b"), open(2, "b"), open(3, "i")), list(open(4, "i"), open(5, "i"), open(6, "b")), edits(drop(0), drop(1), drop(2), add(0), add(1), add(2)), 10)
	// A slot is no tag.
	checkPrice(t, list(slot("n")), list(slot("n")), edits(drop(0), add(0)), 8)
}

// P12.2: lists of edits that are no scripts.
func TestPriceNoScript(t *testing.T) {
	a, b := list(word("a"), number("1"), open(1, "b"), tok(0, "x", 0)), list(word("A"), number("2"), open(2, "b"), tok(0, "x", 1))
	good := edits(pair(0, 0), drop(1), add(1), pair(2, 2), pair(3, 3))
	checkPrice(t, a, b, good, 7)
	check := func(a, b []api.Token, bad []api.Edit) {
		t.Helper()
		if got, ok := distance.Price(a, b, bad); got != 0 || ok {
			t.Errorf("Price(%v, %v, %v) = %d, %v", a, b, bad, got, ok)
		}
	}
	for i, e := range good {
		check(a, b, slices.Delete(slices.Clone(good), i, i+1))
		check(a, b, slices.Insert(slices.Clone(good), i, e))
		check(a, b, append(slices.Clone(good), e))
		if i > 0 && i != 2 { // a deletion and an insertion may change places
			swapped := slices.Clone(good)
			swapped[i-1], swapped[i] = e, good[i-1]
			check(a, b, swapped)
		}
		for _, bad := range []api.Edit{pair(-1, -1), pair(-2, -2), pair(-2, e.B), pair(e.A, -2), pair(math.MinInt, e.B), pair(e.A, math.MinInt), pair(4, e.B), pair(e.A, 4), pair(math.MaxInt, e.B), pair(e.A, math.MaxInt), pair(3-e.A, e.B), pair(e.A, 3-e.B)} {
			if bad != e {
				check(a, b, slices.Replace(slices.Clone(good), i, i+1, bad))
			}
		}
		for _, more := range edits(pair(-1, -1), pair(-2, -1), pair(-1, -2), drop(4), add(4), pair(4, 4), drop(0), add(0), drop(3), add(3), drop(math.MinInt), add(math.MinInt), drop(math.MaxInt)) {
			check(a, b, slices.Insert(slices.Clone(good), i, more))
			check(a, b, append(slices.Clone(good), more))
		}
	}
	check(a, b, nil)
	check(a, nil, nil)
	check(nil, b, nil)
	for _, e := range edits(pair(-1, -1), pair(0, 0), pair(-1, 0), pair(0, -1), pair(-2, -2), pair(-1, -2), pair(-2, -1), pair(math.MinInt, math.MinInt), pair(math.MaxInt, math.MaxInt), pair(1, 1)) {
		check(nil, nil, edits(e))
	}
	// A pair for which Cost reports false.
	for i, x := range a {
		for j, y := range b {
			if i != j {
				check(list(x), list(y), edits(pair(0, 0)))
			}
		}
	}
	check(list(open(1, "b")), list(open(1, "i")), edits(pair(0, 0)))
	check(list(open(1, "b")), list(shut(1, "b")), edits(pair(0, 0)))
	check(list(tok(0, "x", 0)), list(tok(0, "y", 0)), edits(pair(0, 0)))
	check(of("a b"), of("b c"), edits(pair(0, 0), pair(1, 2), drop(2), add(1)))
}

// checkDistance checks the distance of two lists in both directions.
func checkDistance(t *testing.T, a, b []api.Token, want int) {
	t.Helper()
	if got := distance.Distance(a, b); got != want {
		t.Errorf("Distance(%v, %v) = %d, not %d", a, b, got, want)
	}
	if got := distance.Distance(b, a); got != want {
		t.Errorf("Distance(%v, %v) = %d, not %d", b, a, got, want)
	}
}

// P12.3: the examples of the chapter, and ordinary lists.
func TestDistanceTexts(t *testing.T) {
	for _, x := range []struct {
		a, b string
		want int
	}{
		{"red car", "Red cars", 5}, {"", "", 0}, {"", "a", 4}, {"", "a b", 9}, {"", "1", 3}, {"", ".", 2}, {"", " ", 1}, {"a", "a", 0}, {"a", "A", 1}, {"a", "b", 4}, {"a", "1", 7}, {"a", ".", 6},
		{"1", "2", 3}, {" ", "\n", 1}, {".", "!", 2}, {"Save", "Save all", 5}, {"Save file", "Save all files", 9}, {"the red car", "the car", 5}, {"the car", "the red car", 5}, {"a b c", "c b a", 8}, {"a b c", "b c a", 10}, {"a b", "b a", 8},
		{"Don't pay 1,000.50 now!", "don't pay 1,000.5 now.", 6}, {"Don't pay 1,000.50 now!", "Pay now!", 10}, {"A B C", "a b c", 3}, {"A B", "a  b", 3}, {"x-y", "x - y", 12}, {"Äpfel", "äpfel", 4}, {"one two three four", "one three four", 5}, {"one two three four", "zero one two three four", 5},
	} {
		checkDistance(t, of(x.a), of(x.b), x.want)
	}
}

// P12.3: tags that are moved, missing and added, alone, beside equal words and
// beside words that differ.
func TestDistanceTags(t *testing.T) {
	x, y, big := word("x"), word("y"), word("X")
	for _, l := range []struct {
		a, b []api.Token
		want int
	}{
		{list(open(0, "b"), x), list(x, open(0, "b")), 2}, {list(open(0, "b"), x), list(x), 3}, {list(open(1, "b"), x), list(x, open(2, "b")), 2},
		{list(open(1, "b")), list(open(2, "b")), 0}, {list(open(1, "b")), nil, 3}, {list(open(1, "b")), list(open(1, "i")), 6}, {list(open(1, "b")), list(shut(1, "b")), 6}, {list(open(1, "b")), list(x), 7}, {list(open(1, "b")), list(slot("b")), 7},
		{list(open(1, "b"), x, shut(1, "b")), list(x), 6}, {list(open(1, "b"), x, shut(1, "b")), list(x, open(1, "b"), shut(1, "b")), 2}, {list(open(1, "b"), x, shut(1, "b")), list(open(1, "b"), shut(1, "b"), x), 2}, {list(open(1, "b"), x, shut(1, "b")), list(shut(1, "b"), x, open(1, "b")), 4},
		{list(open(1, "b"), x), list(y, open(1, "b")), 6}, {list(open(1, "b"), x), list(big, open(1, "b")), 3}, {list(open(1, "b"), x), list(y), 7}, {list(x), list(open(1, "b"), big), 4}, {list(open(1, "b"), x), list(open(1, "i"), y), 10},
		{list(open(1, "b"), open(2, "b"), x), list(x, open(3, "b")), 5}, {list(open(1, "b"), open(2, "b"), x), list(x), 6}, {list(open(1, "b"), open(2, "b"), x), list(x, open(1, "b"), open(2, "b")), 4}, {list(open(1, "b"), open(2, "b"), x), list(open(3, "b"), x, open(4, "b")), 2},
		{list(empty(1, "br"), x, y), list(x, empty(1, "br"), y), 2}, {list(empty(1, "br"), x, y), list(x, y, empty(1, "br")), 2}, {list(empty(1, "br"), x, y), list(y, empty(1, "br"), x), 8}, {list(empty(1, "br"), open(2, "b")), list(open(2, "b"), empty(1, "br")), 2},
		{list(open(1, "b"), open(2, "i"), open(3, "u")), list(open(3, "u"), open(2, "i"), open(1, "b")), 4}, {list(open(1, "b"), open(2, "i"), open(3, "u")), list(open(2, "i"), open(3, "u"), open(1, "b")), 2},
		{list(open(1, "b"), x), list(x, y), 7}, {list(open(1, "b"), x), list(x, y, open(1, "b")), 6}, {list(open(1, "b"), sign(".")), list(sign("."), open(1, "b")), 2}, {list(open(1, "b"), blank(" ")), list(blank(" "), open(1, "b")), 2}, {list(open(1, "b"), blank(" ")), list(blank("\n"), open(1, "b")), 2},
		{list(open(1, "b"), open(2, "b"), blank(" ")), list(blank(" "), open(1, "b"), open(2, "b")), 2}, {list(slot("n"), x), list(x, slot("n")), 8}, {list(slot("n"), slot("m")), list(slot("m"), slot("n")), 8}, {list(slot("n")), list(slot("m")), 4}, {list(slot("n"), x), list(x), 4},
	} {
		checkDistance(t, l.a, l.b, l.want)
	}
}

// P12.3: tokens whose kind is not from Open to Sign cost nothing, and hinder
// nothing.
func TestDistanceOtherKinds(t *testing.T) {
	for _, kind := range otherKinds {
		x, y := tok(kind, "x", 1), tok(kind, "y", 1)
		checkDistance(t, list(x), nil, 0)
		checkDistance(t, list(x), list(x), 0)
		checkDistance(t, list(x), list(y), 0)
		checkDistance(t, list(x, y), list(y, x, y), 0)
		checkDistance(t, list(x), of("x"), 4)
		checkDistance(t, list(x, word("a"), y, word("b")), list(word("A"), y, x, word("b"), y), 1)
		checkDistance(t, list(x, open(1, "b"), y), list(y, open(2, "b"), x, open(3, "b")), 3)
		checkDistance(t, list(word("a"), x, word("b")), list(x, word("b"), word("a")), 8)
	}
}

// checkAlign checks a script of Align, and that its price is the distance.
func checkAlign(t *testing.T, a, b []api.Token, want ...api.Edit) {
	t.Helper()
	got := distance.Align(a, b)
	if !slices.Equal(got, want) {
		t.Errorf("Align(%v, %v) = %v, not %v", a, b, got, want)
	}
	if price, ok := distance.Price(a, b, got); !ok || price != distance.Distance(a, b) {
		t.Errorf("Price(%v, %v, %v) = %d, %v, not %d", a, b, got, price, ok, distance.Distance(a, b))
	}
}

// P12.4: the example of the chapter, ordinary lists, and lists with several
// cheapest scripts: a pair comes before a deletion, a deletion before an insertion.
func TestAlignLists(t *testing.T) {
	a, b, c := word("a"), word("b"), word("c")
	checkAlign(t, nil, nil)
	checkAlign(t, list(a), nil, drop(0))
	checkAlign(t, nil, list(a, b), add(0), add(1))
	checkAlign(t, list(a), list(b), pair(0, 0))
	checkAlign(t, list(a, b), list(a, b), pair(0, 0), pair(1, 1))
	checkAlign(t, of("red car"), of("Red cars"), pair(0, 0), pair(1, 1), pair(2, 2))
	checkAlign(t, of("the car"), of("the red car"), pair(0, 0), pair(1, 1), add(2), add(3), pair(2, 4))
	checkAlign(t, of("the red car"), of("the car"), pair(0, 0), pair(1, 1), drop(2), drop(3), pair(4, 2))
	checkAlign(t, list(a), list(a, a, a), pair(0, 0), add(1), add(2))
	checkAlign(t, list(a, a, a), list(a), pair(0, 0), drop(1), drop(2))
	checkAlign(t, list(a), list(b, a), add(0), pair(0, 1))
	checkAlign(t, list(b, a), list(a), drop(0), pair(1, 0))
	checkAlign(t, list(a, b), list(c), pair(0, 0), drop(1))
	checkAlign(t, list(c), list(a, b), pair(0, 0), add(1))
	checkAlign(t, list(a, b), list(b, a), pair(0, 0), pair(1, 1))
	checkAlign(t, list(a, b, c), list(c, b, a), pair(0, 0), pair(1, 1), pair(2, 2))
	checkAlign(t, list(a, b, c), list(b, c, a), drop(0), pair(1, 0), pair(2, 1), add(2))
	checkAlign(t, list(word("A"), a), list(a), drop(0), pair(1, 0))
	checkAlign(t, list(a), list(word("A"), a), add(0), pair(0, 1))
	checkAlign(t, list(a), of("1"), drop(0), add(0))
	checkAlign(t, of("1."), of(". 1"), add(0), add(1), pair(0, 2), drop(1))
	checkAlign(t, of("1 ."), list(a, slot("n")), drop(0), drop(1), drop(2), add(0), add(1))
	checkAlign(t, list(number("1"), a), list(b, number("2")), drop(0), pair(1, 0), add(1))
	checkAlign(t, list(open(1, "b"), a), list(a, open(2, "b")), drop(0), pair(1, 0), add(1))
	checkAlign(t, list(a, open(1, "b")), list(open(2, "b"), a), add(0), pair(0, 1), drop(1))
	checkAlign(t, list(open(1, "b"), open(2, "i")), list(open(2, "i"), open(1, "b")), drop(0), pair(1, 0), add(1))
	checkAlign(t, list(open(1, "b")), list(open(1, "i")), drop(0), add(0))
	checkAlign(t, list(open(1, "b"), open(2, "b")), list(open(3, "b")), pair(0, 0), drop(1))
	checkAlign(t, list(open(1, "b"), a), list(open(1, "i"), b), drop(0), add(0), pair(1, 1))
	checkAlign(t, list(sign("."), open(1, "b")), list(open(1, "b"), sign("!")), drop(0), pair(1, 0), add(1))
	checkAlign(t, list(blank(" "), open(1, "b"), shut(1, "b")), list(open(1, "b"), shut(1, "b"), blank(" ")), drop(0), pair(1, 0), pair(2, 1), add(2))
}

// P12.4: tokens whose kind is not from Open to Sign.
func TestAlignOtherKinds(t *testing.T) {
	for _, kind := range otherKinds {
		x, y, a := tok(kind, "x", 1), tok(kind, "y", 1), word("a")
		checkAlign(t, list(x), list(x), pair(0, 0))
		checkAlign(t, list(x), list(y), drop(0), add(0))
		checkAlign(t, list(x, y), list(y, x), drop(0), pair(1, 0), add(1))
		checkAlign(t, list(x, x), list(x), pair(0, 0), drop(1))
		checkAlign(t, list(y, x), list(x, x), drop(0), pair(1, 0), add(1))
		checkAlign(t, list(a, x), list(x, a), add(0), pair(0, 1), drop(1))
		checkAlign(t, list(x, a), list(a, x), drop(0), pair(1, 0), add(1))
		checkAlign(t, list(x, a), list(y, x, word("b")), drop(0), add(0), add(1), pair(1, 2))
	}
}

// long returns a list of n tokens of all kinds, of which only some repeat.
func long(n, step int) []api.Token {
	l := make([]api.Token, n)
	for i := range l {
		k := i * step
		l[i] = tok(k*7%11, string([]byte{'A' + byte(k%5), 'a' + byte(k/11%3)}), k)
	}
	return l
}

// P12.3, P12.4: long lists need neither much time nor a whole table.
func TestLongLists(t *testing.T) {
	a, b := long(5000, 1), long(4500, 3)
	var before, after runtime.MemStats
	runtime.ReadMemStats(&before)
	script := distance.Align(a, b)
	want := distance.Distance(a, b)
	runtime.ReadMemStats(&after)
	if got := after.TotalAlloc - before.TotalAlloc; got > uint64(len(a)*len(b)/2) {
		t.Errorf("Align and Distance need %d bytes", got)
	}
	if price, ok := distance.Price(a, b, script); !ok || price != want {
		t.Errorf("Price = %d, %v, not %d", price, ok, want)
	}
	many := slices.Repeat(list(word("a"), blank(" "), open(1, "b"), tok(0, "x", 1)), 1<<16)
	few := list(blank(" "), word("A"), open(2, "b"))
	for i, x := range []struct {
		a, b []api.Token
		want int
	}{
		{many, few, 8<<16 - 7}, {few, many, 8<<16 - 7}, {many, nil, 8 << 16}, {nil, many, 8 << 16},
	} {
		price, ok := distance.Price(x.a, x.b, distance.Align(x.a, x.b))
		if got := distance.Distance(x.a, x.b); got != x.want || price != x.want || !ok {
			t.Errorf("%d: Distance = %d, Price = %d, %v, not %d", i, got, price, ok, x.want)
		}
	}
}
