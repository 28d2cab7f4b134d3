package shingle_test

import (
	"math"
	"slices"
	"strings"
	"testing"

	"bitext/api"
	"bitext/distance"
	"bitext/shingle"
	"bitext/token"
)

// tok is a token of any kind.
func tok(kind int, s string, n int) api.Token { return api.Token{Kind: kind, Text: s, ID: n} }

func word(s string) api.Token { return tok(api.Word, s, 0) }

func number(s string) api.Token { return tok(api.Number, s, 0) }

func blank(s string) api.Token { return tok(api.Blank, s, 0) }

func sign(s string) api.Token { return tok(api.Sign, s, 0) }

func slot(s string) api.Token { return tok(api.Slot, s, 0) }

func open(n int, s string) api.Token { return tok(api.Open, s, n) }

func shut(n int, s string) api.Token { return tok(api.Close, s, n) }

func empty(n int, s string) api.Token { return tok(api.Empty, s, n) }

// list is a list of tokens.
func list(l ...api.Token) []api.Token { return l }

// of returns the tokens of a text.
func of(s string) []api.Token { return token.Tokens([]api.Item{{Kind: api.Text, Text: s}}) }

// words is a list of strings.
func words(l ...string) []string { return l }

// g is a pair with its count.
func g(first, second string, count int) api.Gram {
	return api.Gram{First: first, Second: second, Count: count}
}

// grams is a list of pairs.
func grams(l ...api.Gram) []api.Gram { return l }

// times is a list of n elements that are x.
func times[E any](n int, x E) []E { return slices.Repeat([]E{x}, n) }

// otherKinds are the kinds that no token of a fragment has, below, between and
// above those that one has.
var otherKinds = []int{math.MinInt, math.MinInt32, -9, -6, -2, -1, 0, api.Text, api.Sign + 1, 256 + api.Word, 256 + api.Open, 1<<32 + api.Word, 1<<32 + api.Open, math.MaxInt}

// weights are the weights of the kinds from Open to Sign, which are also what a
// tag contributes.
var weights = map[int]int{api.Open: 3, api.Close: 3, api.Empty: 3, api.Slot: 4, api.Word: 4, api.Number: 3, api.Blank: 1, api.Sign: 2}

// everyKind returns all kinds, those of tokens first.
func everyKind() []int {
	var kinds []int
	for kind := api.Open; kind <= api.Sign; kind++ {
		kinds = append(kinds, kind)
	}
	return append(kinds, otherKinds...)
}

// checkWords checks the words of a list.
func checkWords(t *testing.T, l []api.Token, want ...string) {
	t.Helper()
	if got := shingle.Words(l); !slices.Equal(got, want) {
		t.Errorf("Words(%v) = %q, not %q", l, got, want)
	}
}

// P14.1: ordinary lists.
func TestWords(t *testing.T) {
	checkWords(t, of("red car"), "red", "car")
	checkWords(t, of("Don't pay 1,000.50 now!"), "don't", "pay", "now")
	checkWords(t, of("The cat, the dog, THE END."), "the", "cat", "the", "dog", "the", "end")
	checkWords(t, of("Red CAR 7 x-É!"), "red", "car", "x-É")
	checkWords(t, of("3rd x--y a1-b"), "rd", "x", "y", "a1-b")
	checkWords(t, of("b a c a b"), "b", "a", "c", "a", "b")
	checkWords(t, list(open(1, "b"), word("A"), shut(1, "b"), slot("n"), word("B"), empty(2, "br")), "a", "b")
}

// P14.1: empty lists and lists without words.
func TestWordsNone(t *testing.T) {
	checkWords(t, nil)
	checkWords(t, list())
	checkWords(t, of("1 2.5 - ...\n"))
	for _, kind := range everyKind() {
		if kind != api.Word {
			checkWords(t, list(tok(kind, "a", 0)))
			checkWords(t, list(tok(kind, "a", 1), tok(kind, "B", 2), tok(kind, "", 0)))
		}
	}
}

// P14.1: words that differ in their case alone, which all stay, and words whose
// texts no text has.
func TestWordsCase(t *testing.T) {
	checkWords(t, of("car Car CAR cAr car"), "car", "car", "car", "car", "car")
	checkWords(t, list(word("A"), tok(api.Word, "a", 7), tok(api.Word, "A", -7)), "a", "a", "a")
	checkWords(t, list(word(""), word("A B"), word(" "), word("1X"), word("<B>"), word("")), "", "a b", " ", "1x", "<b>", "")
	for b := range 256 {
		s := string([]byte{byte(b)})
		want := s
		if i := strings.IndexByte("ABCDEFGHIJKLMNOPQRSTUVWXYZ", byte(b)); i >= 0 {
			want = "abcdefghijklmnopqrstuvwxyz"[i : i+1]
		}
		checkWords(t, list(word(s), word("x"+s+"Y")), want, "x"+want+"y")
	}
	checkWords(t, of("ÄPFEL Ö İ"), "Äpfel", "Ö", "İ")
}

// P14.1: words between tokens of every other kind.
func TestWordsBetween(t *testing.T) {
	for _, kind := range everyKind() {
		if kind == api.Word {
			continue
		}
		x := tok(kind, "X", 1)
		checkWords(t, list(x, word("B"), x, x, word("a"), x), "b", "a")
		checkWords(t, list(word("B"), x, word("b")), "b", "b")
	}
}

// checkGrams checks the pairs of a list of words, and that they are sorted, differ
// and add up.
func checkGrams(t *testing.T, l []string, want ...api.Gram) {
	t.Helper()
	got := shingle.Grams(l)
	if !slices.Equal(got, want) {
		t.Errorf("Grams(%q) = %v, not %v", l, got, want)
	}
	checkForm(t, l, got)
}

// checkForm checks the order of pairs and the sum of their counts.
func checkForm(t *testing.T, l []string, got []api.Gram) {
	t.Helper()
	sum := 0
	for i, x := range got {
		sum += x.Count
		if x.Count < 1 {
			t.Errorf("Grams(%q) has %v", l, x)
		}
		if i == 0 {
			continue
		}
		y := got[i-1]
		if y.First > x.First || y.First == x.First && y.Second >= x.Second {
			t.Errorf("Grams(%q) has %v behind %v", l, x, y)
		}
	}
	if sum != len(l)+1 {
		t.Errorf("the Counts of Grams(%q) add up to %d", l, sum)
	}
}

// P14.2: ordinary lists, and the chapter's example.
func TestGrams(t *testing.T) {
	checkGrams(t, words("a", "b", "a"), g("", "a", 1), g("a", "", 1), g("a", "b", 1), g("b", "a", 1))
	checkGrams(t, words("red", "car"), g("", "red", 1), g("car", "", 1), g("red", "car", 1))
	checkGrams(t, words("a", "b", "c"), g("", "a", 1), g("a", "b", 1), g("b", "c", 1), g("c", "", 1))
	checkGrams(t, words("a", "b", "a", "b", "a"), g("", "a", 1), g("a", "", 1), g("a", "b", 2), g("b", "a", 2))
	checkGrams(t, words("a", "b", "a", "b"), g("", "a", 1), g("a", "b", 2), g("b", "", 1), g("b", "a", 1))
	checkGrams(t, words("c", "b", "a"), g("", "c", 1), g("a", "", 1), g("b", "a", 1), g("c", "b", 1))
	checkGrams(t, words("x", "a", "b", "y", "a", "b"), g("", "x", 1), g("a", "b", 2), g("b", "", 1), g("b", "y", 1), g("x", "a", 1), g("y", "a", 1))
}

// P14.2: no words, one word, and one word many times.
func TestGramsOneWord(t *testing.T) {
	checkGrams(t, nil, g("", "", 1))
	checkGrams(t, words(), g("", "", 1))
	for _, s := range words("a", "A", "Z9-x", "é", "\x00", "\xff", " ", strings.Repeat("a", 1000)) {
		checkGrams(t, words(s), g("", s, 1), g(s, "", 1))
		for n := 2; n < 50; n++ {
			checkGrams(t, times(n, s), g("", s, 1), g(s, "", 1), g(s, s, n-1))
		}
	}
	checkGrams(t, times(100000, "a"), g("", "a", 1), g("a", "", 1), g("a", "a", 99999))
}

// P14.2: empty strings among the words count like words.
func TestGramsEmptyStrings(t *testing.T) {
	for n := range 50 {
		checkGrams(t, times(n, ""), g("", "", n+1))
	}
	checkGrams(t, words("", "A"), g("", "", 1), g("", "A", 1), g("A", "", 1))
	checkGrams(t, words("a", ""), g("", "", 1), g("", "a", 1), g("a", "", 1))
	checkGrams(t, words("", "a", ""), g("", "", 2), g("", "a", 1), g("a", "", 1))
	checkGrams(t, words("a", "", "a"), g("", "a", 2), g("a", "", 2))
	checkGrams(t, words("a", "", "", "b"), g("", "", 1), g("", "a", 1), g("", "b", 1), g("a", "", 1), g("b", "", 1))
	checkGrams(t, words("a", "", "b", "a"), g("", "a", 1), g("", "b", 1), g("a", "", 2), g("b", "a", 1))
}

// P14.2: words whose order as bytes differs from that of a dictionary, first as
// the first ones of pairs, and then as the second ones.
func TestGramsOrder(t *testing.T) {
	ascending := words("\x00", "\x00\x00", " ", "'", "-", "10", "9", "A", "Z", "Zebra", "a", "a b", "a-b", "a1", "aB", "aa", "ab", "b", "z", "zebra", "\x7f", "\x80", "Äpfel", "äpfel", "Ω", "\xff", "\xff\xff")
	for _, turn := range []int{1, 5, 11} {
		var l []string
		for i := range ascending {
			l = append(l, ascending[i*turn%len(ascending)], "m")
		}
		want := grams(g("", l[0], 1))
		var behind []api.Gram
		for _, s := range ascending {
			want = append(want, g(s, "m", 1))
			if s != l[0] {
				behind = append(behind, g("m", s, 1))
			}
		}
		at := slices.IndexFunc(want, func(x api.Gram) bool { return x.First > "m" })
		behind = append(grams(g("m", "", 1)), behind...)
		checkGrams(t, l, slices.Insert(want, at, behind...)...)
	}
}

// P14.2: pairs that would be the same if their words were joined, folded or cut.
func TestGramsDifferentPairs(t *testing.T) {
	checkGrams(t, words("a", "bc", "ab", "c"), g("", "a", 1), g("a", "bc", 1), g("ab", "c", 1), g("bc", "ab", 1), g("c", "", 1))
	for _, s := range words(" ", "\x00", "\x01", "\n", "\t", ",", "|", "\xff") {
		a, b := "a"+s, s+"b"
		for _, l := range [][]string{words(a, "b", "a", b), words("a", b, a, "b")} {
			got := shingle.Grams(l)
			checkForm(t, l, got)
			if !slices.Contains(got, g(a, "b", 1)) || !slices.Contains(got, g("a", b, 1)) || len(got) != 5 {
				t.Errorf("Grams(%q) = %v", l, got)
			}
		}
	}
	checkGrams(t, words("a", "A", "a"), g("", "a", 1), g("A", "a", 1), g("a", "", 1), g("a", "A", 1))
	checkGrams(t, words("A", "B"), g("", "A", 1), g("A", "B", 1), g("B", "", 1))
	checkGrams(t, words("a", "a ", " a"), g("", "a", 1), g(" a", "", 1), g("a", "a ", 1), g("a ", " a", 1))
	long := strings.Repeat("a", 1000)
	checkGrams(t, words(long+"b", long+"c", long+"b"), g("", long+"b", 1), g(long+"b", "", 1), g(long+"b", long+"c", 1), g(long+"c", long+"b", 1))
}

// checkMissing checks what is missing in each of two lists of pairs.
func checkMissing(t *testing.T, a, b []api.Gram, want, back int) {
	t.Helper()
	if got := shingle.Missing(a, b); got != want {
		t.Errorf("Missing(%v, %v) = %d, not %d", a, b, got, want)
	}
	if got := shingle.Missing(b, a); got != back {
		t.Errorf("Missing(%v, %v) = %d, not %d", b, a, got, back)
	}
}

// P14.3: ordinary lists.
func TestMissing(t *testing.T) {
	checkMissing(t, grams(g("x", "y", 3)), grams(g("x", "y", 1)), 2, 0)
	checkMissing(t, grams(g("x", "y", 3)), grams(g("x", "y", 3)), 0, 0)
	checkMissing(t, grams(g("x", "y", 3)), grams(g("y", "x", 1)), 3, 1)
	checkMissing(t, grams(g("x", "y", 3)), grams(g("x", "", 1), g("", "y", 1), g("X", "y", 5), g("x", "Y", 7)), 3, 14)
	checkMissing(t, grams(g("a", "b", 3), g("c", "d", 1)), grams(g("a", "b", 1), g("c", "d", 3)), 2, 2)
	checkMissing(t, grams(g("a", "b", 3), g("c", "d", 1), g("e", "f", 2)), grams(g("c", "d", 4), g("e", "f", 1)), 4, 3)
	checkMissing(t, shingle.Grams(words("a", "b", "c")), shingle.Grams(words("c", "b", "a")), 4, 4)
	checkMissing(t, shingle.Grams(words("a", "b", "c")), shingle.Grams(words("a", "b")), 2, 1)
	checkMissing(t, shingle.Grams(words("a", "b", "c")), shingle.Grams(words("a", "x", "c")), 2, 2)
	checkMissing(t, shingle.Grams(words("a", "b", "c")), shingle.Grams(words("a", "b", "c")), 0, 0)
	checkMissing(t, shingle.Grams(words("a", "a", "a")), shingle.Grams(words("a")), 2, 0)
	checkMissing(t, shingle.Grams(nil), shingle.Grams(words("a")), 1, 2)
}

// P14.3: empty lists.
func TestMissingEmpty(t *testing.T) {
	checkMissing(t, nil, nil, 0, 0)
	checkMissing(t, nil, grams(), 0, 0)
	for count, want := range map[int]int{math.MinInt: 0, -1: 0, 0: 0, 1: 1, 7: 7, api.MaxInt - 1: api.MaxInt - 1, api.MaxInt: api.MaxInt, api.MaxInt + 1: api.MaxInt, math.MaxInt: api.MaxInt} {
		checkMissing(t, grams(g("a", "b", count)), nil, want, 0)
		checkMissing(t, grams(g("", "", count)), grams(), want, 0)
	}
}

// P14.3: pairs that stand several times in a list, and lists in any order.
func TestMissingUnsorted(t *testing.T) {
	a := grams(g("x", "y", 1), g("a", "b", 2), g("x", "y", 4))
	checkMissing(t, a, grams(g("x", "y", 2)), 5, 0)
	checkMissing(t, a, grams(g("x", "y", 2), g("x", "y", 2), g("x", "y", 2)), 2, 1)
	checkMissing(t, a, grams(g("a", "b", 1), g("x", "y", 5), g("a", "b", 1)), 0, 0)
	checkMissing(t, grams(g("x", "y", 3)), grams(g("x", "y", 1), g("x", "y", 1)), 1, 0)
	checkMissing(t, times(5, g("x", "y", 1)), grams(g("x", "y", 3)), 2, 0)
	checkMissing(t, times(5, g("x", "y", 2)), times(3, g("x", "y", 3)), 1, 0)
	b := grams(g("z", "z", 2), g("a", "b", 5), g("x", "y", 1), g("z", "z", 1))
	for range a {
		a = append(a[1:], a[0])
		for range b {
			b = append(b[1:], b[0])
			checkMissing(t, a, b, 4, 6)
		}
	}
}

// P14.3: a negative Count takes nothing away, from neither list.
func TestMissingNegative(t *testing.T) {
	for _, count := range []int{math.MinInt, math.MinInt + 1, -api.MaxInt - 1, -api.MaxInt, -5, -1, 0} {
		x := g("x", "y", count)
		checkMissing(t, grams(x), nil, 0, 0)
		checkMissing(t, grams(x), grams(x), 0, 0)
		checkMissing(t, times(9, x), grams(x), 0, 0)
		checkMissing(t, grams(x, g("x", "y", 1)), nil, 1, 0)
		checkMissing(t, grams(g("x", "y", 1), x, x), nil, 1, 0)
		checkMissing(t, grams(g("x", "y", 3)), grams(x, g("y", "x", 9)), 3, 9)
		checkMissing(t, grams(g("x", "y", 3), x), grams(g("x", "y", 1), x, x), 2, 0)
		checkMissing(t, grams(x, g("a", "b", 3)), grams(g("x", "y", 3)), 3, 3)
		checkMissing(t, grams(x, g("x", "y", api.MaxInt)), grams(x, x, g("x", "y", 1)), api.MaxInt-1, 0)
	}
}

// P14.3: Counts at the limit and above it, alone.
func TestMissingLimit(t *testing.T) {
	most := api.MaxInt
	for _, count := range []int{most, most + 1, most + 9, 1<<31 - 1, 1 << 31, 1 << 32, 1<<32 + 1, 1 << 62, math.MaxInt - 1, math.MaxInt} {
		x := g("x", "y", count)
		checkMissing(t, grams(x), nil, most, 0)
		checkMissing(t, grams(x), grams(g("x", "y", 2)), most-2, 0)
		checkMissing(t, grams(x), grams(g("x", "y", most-1)), 1, 0)
		checkMissing(t, grams(x), grams(g("x", "y", most)), 0, 0)
		checkMissing(t, grams(x), grams(g("x", "y", most+1)), 0, 0)
		checkMissing(t, grams(x), grams(g("x", "y", math.MaxInt)), 0, 0)
		checkMissing(t, grams(x), grams(g("x", "y", math.MinInt)), most, 0)
		checkMissing(t, grams(x), grams(g("y", "x", count)), most, most)
	}
	checkMissing(t, grams(g("x", "y", most-1)), nil, most-1, 0)
	checkMissing(t, grams(g("x", "y", most-1)), grams(g("x", "y", 1)), most-2, 0)
}

// P14.3: the occurrences of a pair may add up to more than the limit, but not the
// result.
func TestMissingAboveLimit(t *testing.T) {
	most := api.MaxInt
	for _, count := range []int{most, most + 1, math.MaxInt} {
		x := g("x", "y", count)
		checkMissing(t, grams(x, x), nil, most, 0)
		checkMissing(t, grams(x, x), grams(x), most, 0)
		checkMissing(t, grams(x, x, x), grams(x), most, 0)
		checkMissing(t, grams(x, x), grams(x, g("x", "y", 1)), most-1, 0)
		checkMissing(t, grams(x, x), grams(x, g("x", "y", most-3)), 3, 0)
		checkMissing(t, grams(x, g("x", "y", 1)), grams(x), 1, 0)
		checkMissing(t, grams(x, g("x", "y", 5), g("x", "y", -1)), grams(g("x", "y", 4)), most, 0)
		checkMissing(t, grams(x, g("x", "y", 4)), grams(g("x", "y", 5)), most-1, 0)
		checkMissing(t, times(1000, x), times(999, x), most, 0)
		checkMissing(t, times(1000, x), times(1000, x), 0, 0)
		checkMissing(t, append(times(1000, x), g("x", "y", 7)), times(1000, x), 7, 0)
		checkMissing(t, grams(x, g("a", "b", 7)), nil, most, 0)
		checkMissing(t, grams(x, g("a", "b", count)), grams(g("x", "y", 9)), most, 0)
		checkMissing(t, grams(x, g("a", "b", 7)), grams(g("x", "y", 9)), most-2, 0)
		checkMissing(t, grams(x, g("a", "b", 9)), grams(g("x", "y", 9)), most, 0)
		checkMissing(t, grams(x, g("a", "b", count)), grams(x, x), most, most)
	}
	checkMissing(t, grams(g("x", "y", most-1), g("a", "b", 1)), nil, most, 0)
	checkMissing(t, grams(g("x", "y", most-1), g("a", "b", 2)), nil, most, 0)
	checkMissing(t, grams(g("x", "y", most-1), g("x", "y", 2)), nil, most, 0)
	checkMissing(t, grams(g("x", "y", most-1), g("x", "y", 2)), grams(g("x", "y", most)), 1, 0)
	checkMissing(t, append(times(200000, g("x", "y", math.MaxInt)), g("x", "y", 3)), times(200000, g("x", "y", most)), 3, 0)
}

// checkBag checks the bag bound of two lists, in both directions.
func checkBag(t *testing.T, a, b []api.Token, want int) {
	t.Helper()
	if got := shingle.Bag(a, b); got != want {
		t.Errorf("Bag(%v, %v) = %d, not %d", a, b, got, want)
	}
	if got := shingle.Bag(b, a); got != want {
		t.Errorf("Bag(%v, %v) = %d, not %d", b, a, got, want)
	}
}

// P14.4: ordinary lists, and the chapter's examples.
func TestBag(t *testing.T) {
	checkBag(t, of("red car"), of("Red cars"), 4)
	checkBag(t, of("red car"), of("car red"), 0)
	checkBag(t, of("a b c"), of("c b a"), 0)
	checkBag(t, of("a  b"), of("a b"), 1)
	checkBag(t, of("a."), of("b!"), 6)
	checkBag(t, of("Pay 1,000 now!"), of("pay 1000 now."), 5)
	checkBag(t, of("one two three four"), of("one two three"), 5)
	checkBag(t, of("one two three four"), of("five six"), 18)
	checkBag(t, list(open(1, "b"), word("x"), shut(1, "b")), list(word("x"), open(2, "b"), shut(2, "b")), 0)
	checkBag(t, list(open(1, "b"), word("x"), shut(1, "b")), of("x"), 6)
	checkBag(t, list(open(1, "b"), word("x"), shut(1, "b")), list(open(1, "i"), word("x"), shut(1, "i")), 12)
	checkBag(t, list(word("a"), open(1, "b")), of("b"), 7)
	checkBag(t, nil, nil, 0)
	checkBag(t, nil, list(), 0)
	checkBag(t, of("red car, 2"), nil, 15)
}

// P14.4: every kind on one side, and on both sides equally and unequally often.
func TestBagEveryKind(t *testing.T) {
	for kind, weight := range weights {
		for x := range 6 {
			for y := range 6 {
				a, b := times(x, tok(kind, "a", 1)), times(y, tok(kind, "a", 1))
				checkBag(t, a, b, weight*max(x-y, y-x))
				// Another class has surpluses of its own.
				other, more := times(y, tok(kind, "b", 1)), times(3, tok(kind, "b", 1))
				want := weight * max(x, y)
				wantMore := weight * max(max(x-y, 0)+3, max(y-x, 0))
				if kind <= api.Empty {
					want, wantMore = weight*(x+y), weight*(max(x-y, y-x)+3)
				}
				checkBag(t, a, other, want)
				checkBag(t, slices.Concat(a, more), b, wantMore)
				checkBag(t, slices.Concat(more, a), b, wantMore)
			}
		}
	}
}

// P14.4: every two kinds; the same text in two kinds is in two classes.
func TestBagEveryTwoKinds(t *testing.T) {
	for _, first := range everyKind() {
		for _, second := range everyKind() {
			x, y := weights[first], weights[second]
			apart, twice := max(x, y), max(2*x, y)
			if first <= api.Empty || second <= api.Empty {
				apart, twice = x+y, 2*x+y
			}
			if first == second {
				apart, twice = 0, x
			}
			a, b := tok(first, "a", 1), tok(second, "a", 1)
			checkBag(t, list(a), list(b), apart)
			checkBag(t, list(a, a), list(b), twice)
			checkBag(t, list(a, b), list(b, a), 0)
			checkBag(t, list(a, b), nil, x+y)
		}
	}
}

// P14.4: words that differ in their case alone are in one class, other tokens are
// not.
func TestBagCase(t *testing.T) {
	checkBag(t, of("a"), of("A"), 0)
	checkBag(t, of("red CAR"), of("RED car"), 0)
	checkBag(t, of("car Car"), of("CAR"), 5)
	checkBag(t, list(word("a"), word("A"), word("a")), list(word("A")), 8)
	checkBag(t, of("Äpfel"), of("äpfel"), 4)
	checkBag(t, of("ÄPFEL"), of("Äpfel"), 0)
	checkBag(t, list(number("1a")), list(number("1A")), 3)
	checkBag(t, list(sign("a")), list(sign("A")), 2)
	checkBag(t, list(blank("a")), list(blank("A")), 1)
	checkBag(t, list(slot("n")), list(slot("N")), 4)
	checkBag(t, list(slot("n"), slot("N")), list(slot("n"), slot("n")), 4)
	for kind := api.Open; kind <= api.Empty; kind++ {
		checkBag(t, list(tok(kind, "b", 1)), list(tok(kind, "B", 1)), 6)
	}
	checkBag(t, of("[@"), of("{`"), 4)
	checkBag(t, list(word("[")), list(word("{")), 4)
}

// P14.4: no ID is compared.
func TestBagNumbers(t *testing.T) {
	for kind, weight := range weights {
		for _, n := range []int{math.MinInt, -1, 0, 1, 2, api.MaxID, math.MaxInt} {
			checkBag(t, list(tok(kind, "b", 1)), list(tok(kind, "b", n)), 0)
			checkBag(t, list(tok(kind, "b", 1), tok(kind, "b", n)), list(tok(kind, "b", 3)), weight)
			checkBag(t, list(tok(kind, "b", n), tok(kind, "b", 1)), nil, 2*weight)
		}
	}
}

// P14.4: a surplus of one list alone, and of both; the greater one counts, and the
// tags are always added.
func TestBagSurplus(t *testing.T) {
	checkBag(t, of("a b"), of("a"), 5)
	checkBag(t, of("a b"), of("b"), 5)
	checkBag(t, of("1"), of("2"), 3)
	checkBag(t, of("1."), of("2"), 5)
	checkBag(t, list(word("a"), number("1")), list(word("b")), 7)
	checkBag(t, list(word("a"), number("1")), list(word("b"), sign(".")), 7)
	checkBag(t, list(word("a")), list(number("1"), sign(".")), 5)
	checkBag(t, list(word("a")), list(number("1"), blank(" ")), 4)
	checkBag(t, list(slot("a"), slot("b")), list(word("a"), number("1"), blank(" ")), 8)
	checkBag(t, list(slot("a"), slot("b")), list(word("a"), number("1"), sign(".")), 9)
	checkBag(t, list(word("a"), word("b"), sign(".")), list(word("b"), word("c"), sign("."), sign(".")), 6)
	tags, others := list(open(1, "b"), empty(2, "br"), empty(3, "br")), list(shut(1, "b"), empty(1, "br"))
	checkBag(t, tags, others, 9)
	checkBag(t, slices.Concat(tags, of("a")), others, 13)
	checkBag(t, tags, slices.Concat(others, of("a")), 13)
	checkBag(t, slices.Concat(tags, of("a")), slices.Concat(others, of("a")), 9)
	checkBag(t, slices.Concat(tags, of("a")), slices.Concat(others, of("b")), 13)
	checkBag(t, slices.Concat(of("a "), tags, of("1")), slices.Concat(of("b"), others, of("1.")), 15)
}

// P14.4: tokens of other kinds are in no class, alone and among others.
func TestBagOtherKinds(t *testing.T) {
	for _, kind := range otherKinds {
		x, y := tok(kind, "x", 1), tok(kind, "y", 2)
		checkBag(t, list(x), nil, 0)
		checkBag(t, list(x), list(y, y), 0)
		checkBag(t, times(9, x), list(x), 0)
		checkBag(t, list(x, x, word("a")), list(y), 4)
		checkBag(t, list(x, word("a"), x), list(word("A"), y), 0)
		checkBag(t, list(open(1, "x"), x), list(y, shut(1, "x")), 6)
		checkBag(t, list(tok(kind, "a", 1)), of("a"), 4)
	}
}

// checkBound checks the bound of two lists, in both directions, and that it is at
// most their distance.
func checkBound(t *testing.T, a, b []api.Token, want int) {
	t.Helper()
	if got := shingle.Bound(a, b); got != want {
		t.Errorf("Bound(%v, %v) = %d, not %d", a, b, got, want)
	}
	if got := shingle.Bound(b, a); got != want {
		t.Errorf("Bound(%v, %v) = %d, not %d", b, a, got, want)
	}
	if apart := distance.Distance(a, b); want > apart {
		t.Errorf("the bound of %v and %v is %d, but their distance %d", a, b, want, apart)
	}
}

// P14.5, P14.6: ordinary lists, and the chapter's examples.
func TestBound(t *testing.T) {
	checkBound(t, of("red car"), of("Red cars"), 4)
	checkBound(t, of("red car"), of("red car"), 0)
	checkBound(t, of("red car"), of("car red"), 8)
	checkBound(t, of("a b"), of("b a"), 8)
	checkBound(t, of("a b c"), of("c b a"), 8)
	checkBound(t, of("one two three four"), of("one two four"), 5)
	checkBound(t, of("one two three four"), of("one 2 three four"), 4)
	checkBound(t, of("one two three four"), of("two three four one"), 8)
	checkBound(t, nil, nil, 0)
	checkBound(t, nil, list(), 0)
	checkBound(t, nil, of("a"), 4)
	checkBound(t, nil, of("a b"), 9)
	checkBound(t, nil, of("1."), 5)
	checkBound(t, list(open(1, "b"), word("x"), shut(1, "b")), list(word("x"), open(2, "b"), shut(2, "b")), 0)
}

// P14.5: the bag bound is the greater one.
func TestBoundBag(t *testing.T) {
	checkBound(t, of("a b c d"), of("e f g h"), 16)
	checkBound(t, of("a 1"), of("b 2"), 7)
	checkBound(t, of("a b"), nil, 9)
	checkBound(t, of("1"), of("2"), 3)
	checkBound(t, list(slot("n")), list(slot("m")), 4)
	checkBound(t, list(slot("n")), of("n"), 4)
	checkBound(t, list(open(1, "b"), word("a"), shut(1, "b")), of("b"), 10)
	checkBound(t, slices.Concat(of("a b"), list(open(1, "i"), empty(2, "br"), shut(1, "i"))), of("b a"), 9)
	for n := range 50 {
		checkBound(t, times(n, word("a")), nil, 4*n)
		checkBound(t, times(n, word("a")), times(n, word("b")), 4*n)
		checkBound(t, times(n, word("a")), times(50, word("a")), 4*(50-n))
	}
}

// P14.5: the pairs give the greater bound, for odd and even numbers of them.
func TestBoundPairs(t *testing.T) {
	for n, want := range map[int]int{2: 8, 3: 8, 4: 12, 5: 12, 6: 16, 7: 16, 8: 20, 25: 52, 26: 56} {
		// All n + 1 pairs of n words are missing if the words are turned round.
		var l []api.Token
		for i := range n {
			l = append(l, word(string(rune('a'+i))))
		}
		turned := slices.Clone(l)
		slices.Reverse(turned)
		checkBound(t, l, turned, want)
		checkBag(t, l, turned, 0)
	}
	checkBound(t, of("a b c d"), of("b c d a"), 8)
	checkBound(t, of("a b c d"), of("a c b d"), 8)
	checkBound(t, of("a b c d e"), of("d e a b c"), 8)
	checkBound(t, of("a b x c d"), of("c d y a b"), 8)
	checkBound(t, of("x a y b"), of("b a"), 12)
	checkBound(t, of("x a y b."), of("B 1 A"), 12)
	// A word with the empty text is like a border, so that a single pair is missing.
	checkBound(t, list(word("")), nil, 4)
	checkBound(t, times(2, word("")), nil, 8)
	checkBound(t, list(word(""), word("a")), list(word("a"), word("")), 0)
	checkBound(t, of("a a"), of("a a a"), 5)
}

// P14.5: what is missing in either list counts, whichever is more.
func TestBoundDirection(t *testing.T) {
	for _, x := range []struct {
		a, b       string
		here, back int
		want       int
	}{
		{"a b c", "a c b x", 3, 4, 8},
		{"c b a", "c a b c b", 2, 4, 10},
		{"a b a", "b a a b", 2, 3, 8},
		{"a b c", "c b a a", 4, 5, 12},
		{"a b c d e f", "f e d c b a a a", 7, 9, 20},
	} {
		a, b := of(x.a), of(x.b)
		checkMissing(t, shingle.Grams(shingle.Words(a)), shingle.Grams(shingle.Words(b)), x.here, x.back)
		checkBound(t, a, b, x.want)
	}
}

// P14.5, P14.6: words that differ in their case alone, and tags in their ID alone,
// add nothing to the bound.
func TestBoundSame(t *testing.T) {
	checkBound(t, of("a"), of("A"), 0)
	checkBound(t, of("red CAR Red car"), of("RED car red CAR"), 0)
	a := slices.Concat(of("Pay "), list(open(1, "b"), slot("n"), shut(1, "b"), empty(2, "br")), of(" now, 2 or 3.\n"))
	b := slices.Clone(a)
	for i := range b {
		b[i].ID += 7
	}
	checkBound(t, a, a, 0)
	checkBound(t, a, b, 0)
	checkBound(t, of("a b. c"), of("a. b c"), 0)
	checkBound(t, of("a 1 b"), of("1 a b"), 0)
}

// P14.5, P14.6: tokens of other kinds change no bound.
func TestBoundOtherKinds(t *testing.T) {
	pairs := [][2][]api.Token{{nil, nil}, {nil, of("a")}, {of("red car"), of("Red cars")}, {list(open(1, "b")), list(open(1, "i"))}, {of("a b c d"), of("d c b a")}, {of("same"), of("same")}}
	for _, kind := range otherKinds {
		x, y := tok(kind, "x", 1), tok(kind, "y", 2)
		checkBound(t, list(x), nil, 0)
		checkBound(t, list(x), list(x), 0)
		checkBound(t, list(x, y), list(y, x, x), 0)
		checkBound(t, list(word("a"), x, word("b")), list(word("a"), word("b")), 0)
		checkBound(t, list(tok(kind, "a", 0)), of("a"), 4)
		for _, p := range pairs {
			want := shingle.Bound(p[0], p[1])
			checkBound(t, slices.Concat(times(3, x), p[0], list(y)), slices.Concat(list(y, x), p[1]), want)
			checkBound(t, slices.Concat(times(3, x), p[0], list(y)), p[1], want)
		}
	}
}
