package shingle_test

import (
	"math"
	"math/rand/v2"
	"slices"
	"testing"

	"bitext/api"
	"bitext/distance"
	"bitext/shingle"
)

// The tests of this file set the package against a plain statement of the
// promises, which goes through a whole list for everything that is counted.

// small returns s with small letters.
func small(s string) string {
	l := []byte(s)
	for i, b := range l {
		if 'A' <= b && b <= 'Z' {
			l[i] = b + 32
		}
	}
	return string(l)
}

// wordsOf returns the words of a list.
func wordsOf(l []api.Token) []string {
	var found []string
	for _, x := range l {
		if x.Kind == api.Word {
			found = append(found, small(x.Text))
		}
	}
	return found
}

// checkEveryGram checks the pairs of a list of words: each pair of neighbours is
// there, as often as it is found.
func checkEveryGram(t *testing.T, l []string) {
	t.Helper()
	got := shingle.Grams(l)
	checkForm(t, l, got)
	whole := slices.Concat(words(""), l, words(""))
	for i := range len(whole) - 1 {
		count := 0
		for j := range len(whole) - 1 {
			if slices.Equal(whole[i:i+2], whole[j:j+2]) {
				count++
			}
		}
		if !slices.Contains(got, g(whole[i], whole[i+1], count)) {
			t.Fatalf("Grams(%q) = %v", l, got)
		}
	}
}

// occurrences returns how often a list of grams has the pair of x.
func occurrences(l []api.Gram, x api.Gram) int {
	sum := 0
	for _, y := range l {
		if y.First == x.First && y.Second == x.Second && y.Count > 0 {
			sum += min(y.Count, 1<<30)
		}
	}
	return sum
}

// missing returns what the second list of grams lacks.
func missing(a, b []api.Gram) int {
	sum := 0
	for i, x := range a {
		first := slices.IndexFunc(a, func(y api.Gram) bool { return y.First == x.First && y.Second == x.Second })
		if first == i {
			sum += max(occurrences(a, x)-occurrences(b, x), 0)
		}
	}
	return min(sum, 1<<30)
}

// alike reports whether two tokens are in one class, or are one tag.
func alike(x, y api.Token) bool {
	if x.Kind == api.Word && y.Kind == api.Word {
		return small(x.Text) == small(y.Text)
	}
	return x.Kind == y.Kind && x.Text == y.Text
}

// bag returns the bag bound of two lists. One token of each list that are alike
// are taken away together, as long as there are any.
func bag(a, b []api.Token) int {
	left := slices.Clone(b)
	var surplus [2]int
	tags := 0
	add := func(side int, x api.Token) {
		if x.Kind >= api.Open && x.Kind <= api.Empty {
			tags += 3
		} else {
			surplus[side] += weights[x.Kind]
		}
	}
	for _, x := range a {
		i := slices.IndexFunc(left, func(y api.Token) bool { return alike(x, y) })
		if i < 0 {
			add(0, x)
		} else {
			left = slices.Delete(left, i, i+1)
		}
	}
	for _, x := range left {
		add(1, x)
	}
	return max(surplus[0], surplus[1]) + tags
}

// bound returns the bound of two lists: of the multiples of 4, the first one with
// two pairs for each 4.
func bound(a, b []api.Token) int {
	gramsA, gramsB := shingle.Grams(wordsOf(a)), shingle.Grams(wordsOf(b))
	lacking := max(missing(gramsA, gramsB), missing(gramsB, gramsA))
	n := 0
	for n/4*2 < lacking {
		n += 4
	}
	return max(bag(a, b), n)
}

// checkPair checks all promises about two lists, and returns their bound and
// their distance.
func checkPair(t *testing.T, a, b []api.Token) (int, int) {
	t.Helper()
	if got, want := shingle.Bag(a, b), bag(a, b); got != want {
		t.Fatalf("Bag(%v, %v) = %d, not %d", a, b, got, want)
	}
	got := shingle.Bound(a, b)
	if want := bound(a, b); got != want {
		t.Fatalf("Bound(%v, %v) = %d, not %d", a, b, got, want)
	}
	if back := shingle.Bound(b, a); got != back {
		t.Fatalf("Bound(%v, %v) = %d, but %d back", a, b, got, back)
	}
	apart := distance.Distance(a, b)
	if got > apart {
		t.Fatalf("Bound(%v, %v) = %d, but the distance is %d", a, b, got, apart)
	}
	return got, apart
}

// every are tokens of every kind, and of none.
var every = list(
	word("a"), word("A"), word("b"), word(""), number("1"), number("a"), blank(" "), sign("."), sign("!"), slot("n"), slot("b"),
	open(1, "b"), open(2, "b"), open(1, "B"), shut(1, "b"), empty(1, "b"), tok(0, "a", 1), tok(api.Text, "a", 0), tok(api.Sign+1, "b", 2),
)

// all returns the lists of at most n of the given elements.
func all[E any](n int, elements []E) [][]E {
	lists := [][]E{nil}
	for from := 0; n > 0; n-- {
		to := len(lists)
		for _, l := range lists[from:to] {
			for _, x := range elements {
				lists = append(lists, append(slices.Clone(l), x))
			}
		}
		from = to
	}
	return lists
}

// P14.1: all short lists.
func TestEveryListOfTokens(t *testing.T) {
	for _, l := range slices.Concat(all(3, every), all(7, list(word("A"), word("b"), number("1")))) {
		if got, want := shingle.Words(l), wordsOf(l); !slices.Equal(got, want) {
			t.Fatalf("Words(%v) = %q, not %q", l, got, want)
		}
	}
}

// P14.2: all short lists of words.
func TestEveryListOfWords(t *testing.T) {
	for most, elements := range map[int][]string{
		3: words("", "a", "A", "aa", "a b", "\x00", "\xff", "é", "Z", "10", "9"),
		5: words("", "a", "A", "b"),
		6: words("", "a", "b"),
		9: words("a", "b"),
	} {
		for _, l := range all(most, elements) {
			checkEveryGram(t, l)
		}
	}
}

// P14.3: every two short lists of grams, valid and invalid ones.
func TestEveryTwoListsOfGrams(t *testing.T) {
	for _, x := range []struct {
		most   int
		pairs  []api.Gram
		counts []int
	}{
		{1, grams(g("", "", 0), g("", "a", 0), g("a", "", 0), g("a", "b", 0), g("b", "a", 0), g("ab", "", 0), g("", "ab", 0), g("A", "b", 0)), []int{-3, 0, 1, 2, 3, 1 << 31}},
		{2, grams(g("", "a", 0), g("a", "", 0)), []int{math.MinInt, -1, 0, 1, 2, 1<<30 - 1, 1 << 30, 1<<30 + 1, math.MaxInt}},
		{3, grams(g("a", "b", 0), g("b", "a", 0)), []int{-1, 1, 3, 1 << 30}},
		{6, grams(g("a", "b", 0)), []int{1, 2}},
	} {
		var elements []api.Gram
		for _, p := range x.pairs {
			for _, count := range x.counts {
				elements = append(elements, g(p.First, p.Second, count))
			}
		}
		lists := all(x.most, elements)
		for _, a := range lists {
			for _, b := range lists {
				if got, want := shingle.Missing(a, b), missing(a, b); got != want {
					t.Fatalf("Missing(%v, %v) = %d, not %d", a, b, got, want)
				}
			}
		}
	}
}

// P14.4 to P14.6: every two short lists.
func TestEveryTwoLists(t *testing.T) {
	for _, x := range []struct {
		most     int
		elements []api.Token
	}{
		{2, every},
		{3, list(word("a"), word("B"), word("b"), blank(" "), open(1, "b"), tok(0, "a", 1))},
		{3, list(open(1, "b"), open(2, "b"), open(1, "i"), shut(1, "b"), slot("n"), number("1"))},
		{4, list(word("a"), word("b"), word(""), word("c"))},
		{4, list(word("a"), sign("."), empty(1, "b"))},
		{5, list(word("a"), word("b"), word("c"))},
		{7, list(word("a"), word("b"))},
		{7, list(word("a"), word(""))},
	} {
		lists := all(x.most, x.elements)
		for _, a := range lists {
			for _, b := range lists {
				checkPair(t, a, b)
			}
		}
	}
}

// P14.6: lists that are Same token by token, whatever their numbers are.
func TestSameLists(t *testing.T) {
	for _, l := range all(3, every) {
		renumbered := slices.Clone(l)
		for i := range renumbered {
			renumbered[i].ID = 9 - 5*i
		}
		if n := shingle.Bound(l, renumbered); n != 0 {
			t.Fatalf("Bound(%v, %v) = %d", l, renumbered, n)
		}
		if n := shingle.Bag(l, renumbered); n != 0 {
			t.Fatalf("Bag(%v, %v) = %d", l, renumbered, n)
		}
	}
}

// P14.6: inserting, deleting or replacing one word changes at most two pairs on
// each side, and a change of case none.
func TestOneWordApart(t *testing.T) {
	elements := list(word("a"), word("b"), word("c"), word(""))
	check := func(a, b []api.Token, most int) {
		t.Helper()
		gramsA, gramsB := shingle.Grams(shingle.Words(a)), shingle.Grams(shingle.Words(b))
		if n, back := shingle.Missing(gramsA, gramsB), shingle.Missing(gramsB, gramsA); n > most || back > most {
			t.Fatalf("of %v and %v, %d and %d pairs are missing", a, b, n, back)
		}
	}
	for _, l := range all(5, elements) {
		for i := range len(l) + 1 {
			for _, x := range elements {
				check(l, slices.Concat(l[:i], list(x), l[i:]), 2)
				if i < len(l) {
					check(l, slices.Concat(l[:i], list(x), l[i+1:]), 2)
				}
			}
			if i < len(l) && l[i].Text != "" {
				check(l, slices.Concat(l[:i], list(word(string(l[i].Text[0]-32))), l[i+1:]), 0)
			}
		}
	}
}

// P14.4 to P14.6: longer lists, which differ in some tokens or in all.
func TestLongerLists(t *testing.T) {
	random := rand.New(rand.NewPCG(14, 14))
	choose := func(n int, elements []api.Token) []api.Token {
		var l []api.Token
		for range random.IntN(n) {
			l = append(l, elements[random.IntN(len(elements))])
		}
		return l
	}
	text := list(word("a"), word("A"), word("b"), word("c"), word("d"), word("e"), word("f"), blank(" "), sign("."))
	near, far := 0, 0
	for n := range 15000 {
		elements := every
		if n%3 > 0 {
			elements = text[:2+random.IntN(len(text)-1)]
		}
		a := choose(40, elements)
		b := slices.Clone(a)
		for _, x := range choose(1+random.IntN(1+len(a)), elements) {
			i := random.IntN(len(b) + 1)
			if random.IntN(2) == 0 && i < len(b) {
				b = slices.Delete(b, i, i+1)
			} else {
				b = slices.Insert(b, i, x)
			}
		}
		if n%10 == 0 {
			random.Shuffle(len(b), func(i, j int) { b[i], b[j] = b[j], b[i] })
		}
		if n, apart := checkPair(t, a, b); n == apart {
			near++
		} else {
			far++
		}
	}
	if near < 1000 || far < 1000 {
		t.Errorf("the bound is the distance of %d lists, and less of %d", near, far)
	}
}

// P14.5: long lists end soon.
func TestLongLists(t *testing.T) {
	const n = 100000
	var a, b []api.Token
	for i := range n {
		a = append(a, word(string([]rune{rune(0x4e00 + i%300), rune(0x4e00 + i/300)})), blank(" "))
	}
	b = append(b, a[n:]...)
	b = append(b, a[:n]...)
	checks := []struct {
		a, b []api.Token
		want int
	}{
		{a, b, 8}, {a, nil, 5 * n}, {a, a[:n], 5 * n / 2}, {times(n, word("a")), times(n, word("A")), 0}, {times(n, open(1, "b")), times(n, open(1, "i")), 6 * n},
	}
	for _, x := range checks {
		if got := shingle.Bound(x.a, x.b); got != x.want {
			t.Errorf("the bound of %d and %d tokens is %d, not %d", len(x.a), len(x.b), got, x.want)
		}
	}
	slices.Reverse(b)
	if got := shingle.Bound(a, b); got != 4*(n/2+1) {
		t.Errorf("the bound of a list turned round is %d", got)
	}
}

// room returns a copy of l with spare capacity, which repeats l.
func room[E any](l []E) []E { return slices.Repeat(l, 3)[:len(l)] }

// checkIntact checks that a list that room made from l is as it was.
func checkIntact[E comparable](t *testing.T, made, l []E) {
	t.Helper()
	if all := made[:3*len(l)]; !slices.Equal(all, slices.Repeat(l, 3)) {
		t.Errorf("an argument has changed: %v", all)
	}
}

// R2: arguments and their spare capacity stay as they are, and results are new
// memory.
func TestMemory(t *testing.T) {
	a, b := list(open(1, "b"), word("B"), word("a"), tok(0, "x", 0), slot("n"), shut(1, "b")), list(word("A"), open(2, "b"), tok(0, "x", 1), word("b"), number("1"))
	gramsA, gramsB := grams(g("x", "y", 3), g("a", "b", -1), g("x", "y", 9)), grams(g("x", "y", 1<<40), g("", "", 2))
	spareA, spareB, spareWords := room(a), room(b), room(words("b", "a", "b"))
	spareGramsA, spareGramsB := room(gramsA), room(gramsB)
	for range 3 {
		checkWords(t, spareA, "b", "a")
		checkWords(t, spareA[1:2], "b")
		checkGrams(t, spareWords, g("", "b", 1), g("a", "b", 1), g("b", "", 1), g("b", "a", 1))
		checkGrams(t, spareWords[:1], g("", "b", 1), g("b", "", 1))
		checkMissing(t, spareGramsA, spareGramsB, 0, 1<<30-10)
		checkBag(t, spareA, spareB, 7)
		checkBound(t, spareA, spareB, 8)
		checkBound(t, spareB[:1], spareA[:0], 4)
		checkIntact(t, spareA, a)
		checkIntact(t, spareB, b)
		checkIntact(t, spareWords, words("b", "a", "b"))
		checkIntact(t, spareGramsA, gramsA)
		checkIntact(t, spareGramsB, gramsB)
	}
	first, second := shingle.Words(a), shingle.Words(a)
	gramsFirst, gramsSecond := shingle.Grams(first), shingle.Grams(first)
	clear(first[:cap(first)])
	clear(gramsFirst[:cap(gramsFirst)])
	if !slices.Equal(second, words("b", "a")) {
		t.Errorf("a list of words has changed to %q", second)
	}
	if !slices.Equal(gramsSecond, grams(g("", "b", 1), g("a", "", 1), g("b", "a", 1))) {
		t.Errorf("a list of pairs has changed to %v", gramsSecond)
	}
	checkWords(t, a, "b", "a")
	checkGrams(t, spareWords, g("", "b", 1), g("a", "b", 1), g("b", "", 1), g("b", "a", 1))
}
