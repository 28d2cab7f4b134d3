package score_test

import (
	"math/big"
	"math/rand/v2"
	"slices"
	"testing"

	"bitext/api"
	"bitext/distance"
	"bitext/score"
)

// The tests of this file set the package against a plain statement of the
// promises, in which the greatest number that fits is searched.

// percent returns the percentage of lists with this total and distance.
func percent(total, apart int) int {
	if total == 0 {
		return 100
	}
	p := 100
	for p > 0 && p*total > 100*(total-apart) {
		p--
	}
	return p
}

// weigh returns the sum of the weights of a list.
func weigh(l []api.Token) int {
	sum := 0
	for _, x := range l {
		sum += weights[x.Kind]
	}
	return sum
}

// P13.3: Allowed for all totals and percentages of a table, against the formula
// and against what it means for a percentage.
func TestAllowedSmallTable(t *testing.T) {
	for total := -5; total <= 450; total++ {
		for p := -5; p <= 110; p++ {
			want := api.MaxInt
			switch {
			case p > 100:
				want = -1
			case p >= 1 && total >= 1:
				want = 0
				for percent(total, want+1) >= p {
					want++
				}
				if 100*want > total*(100-p) || 100*(want+1) <= total*(100-p) {
					t.Fatalf("the greatest distance of %d with %d percent is not %d", total, p, want)
				}
			}
			if got := score.Allowed(total, p); got != want {
				t.Fatalf("Allowed(%d, %d) = %d, not %d", total, p, got, want)
			}
		}
	}
}

// P13.3: great totals, with numbers of any size.
func TestAllowedGreatTotals(t *testing.T) {
	totals := []int{1<<31 - 1, 1 << 31, 1 << 32, 1 << 33, 1<<57 + 12345, 1 << 62, 1<<63 - 1}
	for i := range 300 {
		totals = append(totals, api.MaxInt-150+i, 1<<20-150+i, 1<<24-150+i, 43383508-150+i)
	}
	for _, total := range totals {
		for p := 1; p <= 100; p++ {
			product := big.NewInt(int64(min(total, 1<<30)))
			product.Mul(product, big.NewInt(int64(100-p)))
			want := product.Div(product, big.NewInt(100))
			if got := score.Allowed(total, p); want.Cmp(big.NewInt(int64(got))) != 0 {
				t.Fatalf("Allowed(%d, %d) = %d, not %v", total, p, got, want)
			}
		}
	}
}

// checkPair checks all promises about two lists, and returns their percentage.
func checkPair(t *testing.T, a, b []api.Token) int {
	t.Helper()
	total, apart := score.Total(a, b), distance.Distance(a, b)
	if want := max(weigh(a), weigh(b)); total != want {
		t.Fatalf("Total(%v, %v) = %d, not %d", a, b, total, want)
	}
	got := score.Percent(a, b)
	if want := percent(total, apart); got != want {
		t.Fatalf("Percent(%v, %v) = %d, not %d", a, b, got, want)
	}
	if mirror := score.Percent(b, a); mirror != got {
		t.Fatalf("Percent(%v, %v) = %d, but %d the other way round", a, b, got, mirror)
	}
	if (got == 100) != (apart == 0) {
		t.Fatalf("Percent(%v, %v) = %d, but the distance is %d", a, b, got, apart)
	}
	for p := 1; p <= 100; p++ {
		if most := score.Allowed(total, p); (got >= p) != (apart <= most) {
			t.Fatalf("Percent(%v, %v) = %d, but the distance is %d and Allowed(%d, %d) is %d", a, b, got, apart, total, p, most)
		}
	}
	return got
}

// every are tokens of every kind, and of none.
var every = list(
	word("a"), word("A"), number("1"), blank(" "), sign("."), slot("n"),
	open(1, "b"), open(2, "i"), shut(1, "b"), empty(1, "b"), tok(0, "a", 1), tok(api.Sign+1, "b", 2),
)

// all returns the lists of at most n of the given tokens.
func all(n int, elements []api.Token) [][]api.Token {
	lists := [][]api.Token{nil}
	for from := 0; n > 0; n-- {
		to := len(lists)
		for _, l := range lists[from:to] {
			for _, x := range elements {
				lists = append(lists, append(slices.Clone(l), x))
			}
		}
		from = to
	}
	return lists
}

// P13.1, P13.2, P13.5: every two short lists.
func TestEveryTwoLists(t *testing.T) {
	for most, elements := range map[int][]api.Token{
		2: every,
		3: list(word("a"), word("A"), blank(" "), open(1, "b"), shut(1, "b"), tok(0, "a", 1)),
		4: list(word("a"), number("1"), empty(1, "b")),
		6: list(sign("."), open(1, "b")),
	} {
		lists := all(most, elements)
		for _, a := range lists {
			for _, b := range lists {
				checkPair(t, a, b)
			}
		}
	}
}

// P13.2, P13.5: every percentage, whole and almost the next one.
func TestEveryPercentage(t *testing.T) {
	for p := range 101 {
		if got := checkPair(t, times(100, blank(" ")), times(p, blank(" "))); got != p {
			t.Errorf("%d percent, not %d", got, p)
		}
		most := min(10*p+9, 1000)
		if got := checkPair(t, times(most, blank(" ")), times(1000, blank(" "))); got != p {
			t.Errorf("%d percent, not %d", got, p)
		}
	}
}

// P13.1, P13.2, P13.5: longer lists, which differ in some tokens or in all.
func TestLongerLists(t *testing.T) {
	random := rand.New(rand.NewPCG(13, 13))
	choose := func(n int, elements []api.Token) []api.Token {
		var l []api.Token
		for range random.IntN(n) {
			l = append(l, elements[random.IntN(len(elements))])
		}
		return l
	}
	for n := range 20000 {
		elements := every
		if n%2 > 0 {
			elements = list(every[random.IntN(len(every))], every[random.IntN(len(every))])
		}
		a := choose(60, elements)
		b := slices.Clone(a)
		for _, x := range choose(1+len(a), elements) {
			i := random.IntN(len(b) + 1)
			if random.IntN(2) == 0 && i < len(b) {
				b = slices.Delete(b, i, i+1)
			} else {
				b = slices.Insert(b, i, x)
			}
		}
		checkPair(t, a, b)
	}
}

// R2: arguments and their spare capacity stay as they are, and a call does not
// change what a later one returns.
func TestMemory(t *testing.T) {
	a, b := list(open(1, "b"), word("a"), tok(0, "x", 0), slot("n"), shut(1, "b")), list(word("A"), open(2, "b"), tok(0, "x", 1), number("1"))
	spareA, spareB := room(a), room(b)
	want, total := score.Percent(a, b), score.Total(a, b)
	for range 3 {
		if got := score.Percent(spareA, spareB); got != want {
			t.Fatalf("Percent = %d, not %d", got, want)
		}
		if got := score.Total(spareA, spareB); got != total {
			t.Fatalf("Total = %d, not %d", got, total)
		}
		if score.Percent(spareB[1:3], spareA[:0]) != 0 || score.Percent(spareA[2:3], spareB[2:3]) != 100 {
			t.Fatal("the percentages of parts of the lists are wrong")
		}
		if !intact(spareA, a) || !intact(spareB, b) {
			t.Fatalf("an argument has changed: %v, %v", spareA[:cap(spareA)], spareB[:cap(spareB)])
		}
	}
}

// room returns a copy of l with spare capacity, which repeats l.
func room(l []api.Token) []api.Token { return slices.Repeat(l, 3)[:len(l)] }

// intact reports whether a list that room made from l is as it was.
func intact(made, l []api.Token) bool {
	return slices.Equal(made[:3*len(l)], slices.Repeat(l, 3))
}
