package index_test

import (
	"math"
	"slices"
	"testing"

	"bitext/api"
	"bitext/index"
	"bitext/shingle"
	"bitext/token"
)

// tok is a token of any kind.
func tok(kind int, s string, n int) api.Token { return api.Token{Kind: kind, Text: s, ID: n} }

func word(s string) api.Token { return tok(api.Word, s, 0) }

func open(n int, s string) api.Token { return tok(api.Open, s, n) }

func shut(n int, s string) api.Token { return tok(api.Close, s, n) }

// list is a list of tokens.
func list(l ...api.Token) []api.Token { return l }

// of returns the tokens of a text.
func of(s string) []api.Token { return token.Tokens([]api.Item{{Kind: api.Text, Text: s}}) }

// otherKinds are the kinds that no token of a fragment has, below, between and
// above those that one has.
var otherKinds = []int{math.MinInt, math.MinInt32, -6, -1, 0, api.Text, api.Sign + 1, 256 + api.Word, 1<<32 + api.Word, math.MaxInt}

// borderIDs are numbers, in ascending order.
var borderIDs = []int{math.MinInt, math.MinInt + 1, math.MinInt32, -api.MaxEntries, -7, -1, 0, 1, 2, 10, api.MaxEntries, math.MaxInt32, 1 << 32, math.MaxInt - 1, math.MaxInt}

// filled is an index of these texts, which stand under the numbers from 1 on.
func filled(t *testing.T, texts ...string) *index.Index {
	t.Helper()
	x := index.New()
	for i, s := range texts {
		checkAdd(t, x, i+1, of(s), true, i+1)
	}
	return x
}

// checkAdd adds a list, and checks the result and the number of lists behind it.
func checkAdd(t *testing.T, x *index.Index, id int, l []api.Token, want bool, count int) {
	t.Helper()
	if got := x.Add(id, l); got != want {
		t.Fatalf("Add(%d, %v) = %t", id, l, got)
	}
	if got := x.Len(); got != count {
		t.Fatalf("after Add(%d, %v), there are %d lists, not %d", id, l, got, count)
	}
}

// checkRemove removes a list, and checks the result and the number of lists behind
// it.
func checkRemove(t *testing.T, x *index.Index, id int, want bool, count int) {
	t.Helper()
	if got := x.Remove(id); got != want {
		t.Fatalf("Remove(%d) = %t", id, got)
	}
	if got := x.Len(); got != count {
		t.Fatalf("after Remove(%d), there are %d lists, not %d", id, got, count)
	}
}

// checkCandidates checks the candidates of a list.
func checkCandidates(t *testing.T, x *index.Index, l []api.Token, percent int, want ...int) {
	t.Helper()
	if got := x.Candidates(l, percent); !slices.Equal(got, want) {
		t.Errorf("Candidates(%v, %d) = %d, not %d", l, percent, got, want)
	}
}

// checkLast checks that the candidates of a list with this percentage are none
// with the next one.
func checkLast(t *testing.T, x *index.Index, l []api.Token, percent int, want ...int) {
	t.Helper()
	checkCandidates(t, x, l, percent, want...)
	for _, id := range want {
		if slices.Contains(x.Candidates(l, percent+1), id) {
			t.Errorf("Candidates(%v, %d) has %d, too", l, percent+1, id)
		}
	}
}

// P15.1: an index is empty at first, and what one holds is not in another one.
func TestNew(t *testing.T) {
	x, y := index.New(), index.New()
	if x.Len() != 0 {
		t.Errorf("a new index has %d lists", x.Len())
	}
	for _, percent := range []int{math.MinInt, -1, 0, 1, 50, 100, 101, math.MaxInt} {
		checkCandidates(t, x, nil, percent)
		checkCandidates(t, x, of("red car"), percent)
		checkCandidates(t, x, list(tok(0, "a", 1)), percent)
	}
	for _, id := range borderIDs {
		checkRemove(t, x, id, false, 0)
	}
	checkAdd(t, x, 1, of("red car"), true, 1)
	checkAdd(t, y, 1, of("blue"), true, 1)
	checkAdd(t, x, 2, of("blue"), true, 2)
	checkCandidates(t, x, of("red car"), 100, 1)
	checkCandidates(t, y, of("red car"), 100)
	checkCandidates(t, y, of("blue"), 100, 1)
	checkCandidates(t, index.New(), of("blue"), 0)
	checkRemove(t, y, 2, false, 1)
	checkRemove(t, y, 1, true, 0)
	checkCandidates(t, x, of("blue"), 100, 2)
}

// P15.1: any int is a number, under which one list can be stored.
func TestAdd(t *testing.T) {
	x := index.New()
	for i, id := range []int{0, math.MaxInt, -7, math.MinInt, 1, math.MaxInt - 1, math.MinInt + 1, -1, 1 << 32} {
		checkAdd(t, x, id, of("red car"), true, i+1)
		checkAdd(t, x, id, of("red car"), false, i+1)
		checkAdd(t, x, id, of("blue"), false, i+1)
		checkAdd(t, x, id, nil, false, i+1)
	}
	checkCandidates(t, x, of("red car"), 100, math.MinInt, math.MinInt+1, -7, -1, 0, 1, 1<<32, math.MaxInt-1, math.MaxInt)
	checkCandidates(t, x, of("blue"), 1)
	checkCandidates(t, x, nil, 1)
}

// P15.1: lists without tokens and without words, and equal lists.
func TestAddLists(t *testing.T) {
	x := index.New()
	lists := [][]api.Token{nil, list(), of("red car"), of("red car"), of("1, 2"), list(open(1, "b"), shut(1, "b")), list(tok(api.Slot, "n", 0)), list(tok(0, "x", 1))}
	for i, l := range lists {
		checkAdd(t, x, i, l, true, i+1)
		checkAdd(t, x, i, l, false, i+1)
	}
	checkCandidates(t, x, nil, 100, 0, 1, 7)
	checkCandidates(t, x, of("red car"), 100, 2, 3)
	checkCandidates(t, x, of("1, 2"), 100, 4)
	checkCandidates(t, x, list(open(3, "b"), shut(5, "b")), 100, 5)
	checkCandidates(t, x, list(tok(api.Slot, "n", 0)), 100, 6)
	checkCandidates(t, x, list(tok(-1, "y", 0)), 100, 0, 1, 7)
	checkCandidates(t, x, nil, 0, 0, 1, 2, 3, 4, 5, 6, 7)
}

// P15.1: lists that are stored, that are not, and that are no more.
func TestRemove(t *testing.T) {
	x := filled(t, "red car", "Red cars", "blue car", "", "7")
	for _, id := range []int{math.MinInt, -1, 0, 6, math.MaxInt} {
		checkRemove(t, x, id, false, 5)
	}
	checkRemove(t, x, 1, true, 4)
	checkRemove(t, x, 1, false, 4)
	checkCandidates(t, x, of("red car"), 44, 2, 3)
	checkRemove(t, x, 4, true, 3)
	checkRemove(t, x, 4, false, 3)
	checkCandidates(t, x, nil, 100)
	checkAdd(t, x, 1, of("7"), true, 4)
	checkCandidates(t, x, of("7"), 100, 1, 5)
	checkCandidates(t, x, of("red car"), 44, 2, 3)
	checkAdd(t, x, 4, of("RED CAR"), true, 5)
	checkCandidates(t, x, of("red car"), 44, 2, 3, 4)
	for i, id := range []int{5, 3, 1, 2, 4} {
		checkRemove(t, x, id, true, 4-i)
		checkRemove(t, x, id, false, 4-i)
	}
	checkCandidates(t, x, of("red car"), 0)
	checkAdd(t, x, 3, of("red car"), true, 1)
	checkCandidates(t, x, of("red car"), 100, 3)
}

// P15.1: of equal lists, only that with the number is removed.
func TestRemoveEqual(t *testing.T) {
	x := filled(t, "red car", "red car", "RED CAR", "red car")
	checkRemove(t, x, 2, true, 3)
	checkCandidates(t, x, of("red car"), 100, 1, 3, 4)
	checkRemove(t, x, 4, true, 2)
	checkRemove(t, x, 1, true, 1)
	checkCandidates(t, x, of("red car"), 100, 3)
}

// P15.1: at most MaxEntries lists, whatever they are and however often one was
// removed.
func TestFull(t *testing.T) {
	x := index.New()
	for i := range api.MaxEntries {
		checkAdd(t, x, i-5, of("red car"), true, i+1)
	}
	most := api.MaxEntries
	for _, id := range []int{-6, most, most - 5, math.MinInt, math.MaxInt, 0} {
		checkAdd(t, x, id, nil, false, most)
		checkAdd(t, x, id, of("blue"), false, most)
	}
	checkCandidates(t, x, of("blue"), 1)
	checkCandidates(t, x, nil, 1)
	checkRemove(t, x, most, false, most)
	if got := x.Candidates(of("red car"), 100); len(got) != most || got[0] != -5 || got[most-1] != most-6 {
		t.Errorf("a full index has %d candidates", len(got))
	}
	for i := range 3 {
		checkRemove(t, x, i, true, most-1)
		checkAdd(t, x, i+1, of("blue"), false, most-1)
		checkAdd(t, x, math.MaxInt-i, of("blue"), true, most)
		checkAdd(t, x, i, of("blue"), false, most)
	}
	checkCandidates(t, x, of("blue"), 100, math.MaxInt-2, math.MaxInt-1, math.MaxInt)
	checkRemove(t, x, 3, true, most-1)
	checkRemove(t, x, 4, true, most-2)
	checkAdd(t, x, 4, of("green"), true, most-1)
	checkAdd(t, x, 3, of("green"), true, most)
	checkAdd(t, x, 2, of("green"), false, most)
	checkCandidates(t, x, of("green"), 100, 3, 4)
}

// answers are the candidates of some lists with some percentages.
func answers(x *index.Index) []int {
	all := []int{x.Len()}
	for _, s := range []string{"", "red car", "car red", "a b c d e f", "f e d c b a", "a b", "7", "blue a b c"} {
		for percent := -1; percent < 103; percent++ {
			ids := x.Candidates(of(s), percent)
			all = append(append(all, len(ids)), ids...)
		}
	}
	return all
}

// P15.1: a call that returns false changes nothing.
func TestRefusedCalls(t *testing.T) {
	x := filled(t, "red car", "f e d c b a", "7", "", "a b c")
	before := answers(x)
	for range 3 {
		for id := 1; id < 6; id++ {
			for _, s := range []string{"", "car red", "a b c d e f", "a b c d e f a b c d e f", "blue", "red car", "7"} {
				checkAdd(t, x, id, of(s), false, 5)
			}
		}
		checkRemove(t, x, 0, false, 5)
		checkRemove(t, x, -1, false, 5)
	}
	if after := answers(x); !slices.Equal(after, before) {
		t.Error("refused calls have an effect")
	}
	for id := 6; id <= api.MaxEntries; id++ {
		checkAdd(t, x, id, of("blue"), true, id)
	}
	before = answers(x)
	for _, s := range []string{"", "red car", "a b c d e f"} {
		checkAdd(t, x, 0, of(s), false, api.MaxEntries)
	}
	if after := answers(x); !slices.Equal(after, before) {
		t.Error("refused calls have an effect on a full index")
	}
	checkRemove(t, x, 0, false, api.MaxEntries)
	checkRemove(t, x, 2, true, api.MaxEntries-1)
	checkAdd(t, x, 0, of("f e d c b a"), true, api.MaxEntries)
	checkCandidates(t, x, of("a b c d e f"), 44, 0, 5)
	checkCandidates(t, x, of("a b c d e f"), 45, 5)
}

// P15.1, R2: a list that the caller changes after Add stays as it was, and so
// does the rest of its memory, which the index does not touch.
func TestListIsKept(t *testing.T) {
	x := index.New()
	memory := slices.Concat(of("a b c d e f"), of(" g h"))
	l := memory[:11]
	checkAdd(t, x, 1, l, true, 1)
	if !slices.Equal(memory, of("a b c d e f g h")) {
		t.Errorf("the argument has changed: %v", memory)
	}
	for i, n := range of("f e d c b a") {
		l[i] = n
	}
	checkCandidates(t, x, of("a b c d e f"), 100, 1)
	checkLast(t, x, of("f e d c b a"), 44, 1)
	checkRemove(t, x, 1, true, 0)
	checkAdd(t, x, 1, of("f e d c b a"), true, 1)
	checkLast(t, x, of("a b c d e f"), 44, 1)
	for i := range l {
		l[i] = api.Token{}
	}
	checkCandidates(t, x, of("f e d c b a"), 100, 1)
}

// R2: the list that is asked about stays as it is, and each result is new memory.
func TestResultIsNew(t *testing.T) {
	x := filled(t, "red car", "red cars", "car")
	memory := slices.Concat(of("Red CAR"), of(" blue"))
	l := memory[:3]
	first := x.Candidates(l, 0)
	second := x.Candidates(l, 0)
	for i := range first {
		first[i] = 9
	}
	if !slices.Equal(second, []int{1, 2, 3}) || !slices.Equal(memory, of("Red CAR blue")) {
		t.Errorf("%d, %v", second, memory)
	}
	checkCandidates(t, x, l, 0, 1, 2, 3)
	copy(l, of("red cars"))
	checkCandidates(t, x, of("red cars"), 100, 2)
	checkCandidates(t, x, of("red car"), 100, 1)
}

// P15.2: ordinary lists, and the chapter's examples.
func TestCandidates(t *testing.T) {
	x := filled(t, "red car", "Red cars", "blue car", "x", "The red car is here.", "car red", "RED CAR")
	checkCandidates(t, x, of("red car"), 100, 1, 7)
	checkCandidates(t, x, of("red car"), 56, 1, 7)
	checkCandidates(t, x, of("red car"), 55, 1, 2, 3, 7)
	checkCandidates(t, x, of("red car"), 44, 1, 2, 3, 7)
	checkCandidates(t, x, of("red car"), 35, 1, 2, 3, 7)
	checkCandidates(t, x, of("red car"), 34, 1, 2, 3, 5, 7)
	checkCandidates(t, x, of("red car"), 12, 1, 2, 3, 5, 7)
	checkCandidates(t, x, of("red car"), 11, 1, 2, 3, 5, 6, 7)
	checkCandidates(t, x, of("red car"), 1, 1, 2, 3, 5, 6, 7)
	checkCandidates(t, x, of("red car"), 0, 1, 2, 3, 4, 5, 6, 7)
	checkCandidates(t, x, of("red car"), 101)
	checkLast(t, x, of("the red car was here"), 76, 5)
	checkLast(t, x, of("y"), 0, 1, 2, 3, 4, 5, 6, 7)
	checkCandidates(t, x, of("y"), 1)
	checkCandidates(t, x, of("X"), 100, 4)
	for _, l := range [][]api.Token{nil, of("red car"), of("x"), of("CARS red"), of("zzz"), of("1"), list(open(1, "b"))} {
		var same []int
		for id, s := range []string{"red car", "Red cars", "blue car", "x", "The red car is here.", "car red", "RED CAR"} {
			if shingle.Bound(l, of(s)) == 0 {
				same = append(same, id+1)
			}
		}
		checkCandidates(t, x, l, 100, same...)
		checkCandidates(t, x, l, 0, 1, 2, 3, 4, 5, 6, 7)
		checkCandidates(t, x, l, 101)
	}
}

// P15.2: percentages at the borders and beyond.
func TestPercentages(t *testing.T) {
	x := filled(t, "a b c", "a b d", "7", "", "e f g h i")
	for _, percent := range []int{math.MinInt, math.MinInt32, -api.MaxInt, -101, -100, -1, 0} {
		checkCandidates(t, x, of("a b c"), percent, 1, 2, 3, 4, 5)
		checkCandidates(t, x, nil, percent, 1, 2, 3, 4, 5)
		checkCandidates(t, x, of("zzz"), percent, 1, 2, 3, 4, 5)
	}
	for _, percent := range []int{101, 102, 200, api.MaxInt, math.MaxInt32, 1 << 32, math.MaxInt} {
		checkCandidates(t, x, of("a b c"), percent)
		checkCandidates(t, x, nil, percent)
		checkCandidates(t, x, of("zzz"), percent)
	}
	checkCandidates(t, x, of("a b c"), 1, 1, 2, 5)
	checkCandidates(t, x, of("a b c"), 8, 1, 2, 5)
	checkCandidates(t, x, of("a b c"), 9, 1, 2)
	checkCandidates(t, x, of("a b c"), 71, 1, 2)
	checkCandidates(t, x, of("a b c"), 72, 1)
	checkCandidates(t, x, of("a b c"), 99, 1)
	checkCandidates(t, x, of("a b c"), 100, 1)
	checkCandidates(t, x, nil, 1, 4)
	checkCandidates(t, x, nil, 99, 4)
	checkCandidates(t, x, nil, 100, 4)
	checkCandidates(t, x, of("zzz"), 1)
	checkCandidates(t, x, of("zzz"), 100)
}

// P15.2: lists of which a small part of a percent decides.
func TestNearPercentages(t *testing.T) {
	x := index.New()
	words := slices.Repeat(list(word("a")), 100)
	for n := range 101 {
		checkAdd(t, x, n, slices.Concat(words[n:], slices.Repeat(list(word("b")), n)), true, n+1)
	}
	for percent := range 101 {
		var want []int
		for n := range 101 - percent {
			want = append(want, n)
		}
		checkCandidates(t, x, words, percent, want...)
	}
	y := index.New()
	checkAdd(t, y, 1, slices.Repeat(of("."), 101), true, 1)
	checkLast(t, y, slices.Repeat(of("."), 100), 99, 1)
	checkLast(t, y, slices.Repeat(of("."), 99), 98, 1)
	checkLast(t, y, slices.Repeat(of("."), 1), 0, 1)
	checkLast(t, y, slices.Repeat(of("."), 2), 1, 1)
}

// P15.2: an empty list, lists without words, and lists of tags.
func TestListsWithoutWords(t *testing.T) {
	x := index.New()
	lists := [][]api.Token{nil, of("7"), of("8"), of("7."), list(open(1, "b"), shut(1, "b")), list(shut(4, "b"), open(4, "b")), list(tok(api.Slot, "n", 0), tok(api.Empty, "br", 1)), of("a 7"), of(" ")}
	for i, l := range lists {
		checkAdd(t, x, i, l, true, i+1)
	}
	checkCandidates(t, x, nil, 1, 0)
	checkCandidates(t, x, nil, 0, 0, 1, 2, 3, 4, 5, 6, 7, 8)
	checkCandidates(t, x, of("7"), 100, 1)
	checkCandidates(t, x, of("7"), 60, 1, 3)
	checkCandidates(t, x, of("7"), 37, 1, 3, 7)
	checkCandidates(t, x, of("7"), 1, 1, 3, 7)
	checkCandidates(t, x, of("9"), 1)
	checkCandidates(t, x, of("9."), 40, 3)
	checkCandidates(t, x, of("9."), 41)
	checkCandidates(t, x, list(open(9, "b"), shut(8, "b")), 100, 4, 5)
	checkCandidates(t, x, list(open(9, "b")), 50, 4, 5)
	checkCandidates(t, x, list(open(9, "b")), 51)
	checkCandidates(t, x, list(open(1, "i"), shut(1, "i")), 1)
	checkCandidates(t, x, list(tok(api.Slot, "n", 0)), 57, 6)
	checkCandidates(t, x, list(tok(api.Slot, "n", 0)), 58)
	checkCandidates(t, x, of("\n"), 1)
	checkCandidates(t, x, of(" "), 100, 8)
}

// P15.2: lists that share no pair of words with the list that is asked about.
func TestNoSharedPair(t *testing.T) {
	x := filled(t, "a b", "c", "a 1.5 1.5 1.5", "d e f g")
	checkCandidates(t, x, of("b a"), 5, 1, 3, 4)
	checkCandidates(t, x, of("b a"), 6, 1, 3)
	checkCandidates(t, x, of("B A"), 11, 1, 3)
	checkCandidates(t, x, of("b a"), 12, 3)
	checkCandidates(t, x, of("zzz"), 1)
	checkLast(t, x, of("zzz 1.5 1.5 1.5"), 75, 3)
	checkCandidates(t, x, of("1.5 1.5 1.5"), 68, 3)
	checkCandidates(t, x, of("1.5 1.5 1.5"), 69)
	checkCandidates(t, x, of("g f e d"), 15, 3, 4)
	checkCandidates(t, x, of("g f e d"), 16, 4)
	checkLast(t, x, of("g f e d"), 36, 4)
	checkCandidates(t, x, of("g f e d"), 0, 1, 2, 3, 4)
	y := index.New()
	signs := slices.Repeat(of("."), 50)
	checkAdd(t, y, 1, slices.Concat(of("a"), signs), true, 1)
	checkAdd(t, y, 2, slices.Concat(of("b"), signs), true, 2)
	checkAdd(t, y, 3, signs, true, 3)
	checkLast(t, y, slices.Concat(signs, of("c")), 96, 1, 2, 3)
	checkCandidates(t, y, slices.Concat(signs, of("A")), 97, 1)
}

// P15.2: words that stand several times count as often.
func TestRepeatedWords(t *testing.T) {
	x := filled(t, "a a a a", "a a a a a a a a", "a", "A a A a", "b a a a a b")
	checkCandidates(t, x, of("a a a a"), 100, 1, 4)
	checkCandidates(t, x, of("a a a a"), 48, 1, 2, 4, 5)
	checkLast(t, x, of("a a a a a a a"), 87, 2)
	checkCandidates(t, x, of("a"), 21, 1, 3, 4)
	checkCandidates(t, x, of("a"), 22, 3)
	x.Remove(2)
	checkCandidates(t, x, of("a a a a a a a a"), 48, 1, 4, 5)
}

// P15.2: the numbers ascend, in whatever order they came.
func TestAscending(t *testing.T) {
	orders := [][]int{borderIDs, slices.Clone(borderIDs), {7, 3, 11, 0, 14, 1, 13, 2, 12, 4, 10, 5, 9, 6, 8}}
	slices.Reverse(orders[1])
	for i, n := range orders[2] {
		orders[2][i] = borderIDs[n]
	}
	for _, order := range orders {
		x := index.New()
		for i, id := range order {
			checkAdd(t, x, id, of([]string{"red car", "blue car", ""}[i%3]), true, i+1)
		}
		checkCandidates(t, x, of("red car"), 0, borderIDs...)
		for i, id := range order[:9] {
			checkRemove(t, x, id, true, len(order)-1-i)
		}
		rest := slices.Sorted(slices.Values(order[9:]))
		checkCandidates(t, x, nil, -1, rest...)
	}
}

// P15.1, P15.2: tokens whose Kind is not from Open to Sign weigh nothing and do
// not part words.
func TestOtherKinds(t *testing.T) {
	for _, kind := range otherKinds {
		x, n := index.New(), tok(kind, "a", 3)
		checkAdd(t, x, 1, list(n), true, 1)
		checkAdd(t, x, 1, list(n), false, 1)
		checkAdd(t, x, 2, list(word("b"), n, n, word("c"), n), true, 2)
		checkAdd(t, x, 3, list(word("b"), word("c")), true, 3)
		checkAdd(t, x, 4, nil, true, 4)
		checkCandidates(t, x, nil, 100, 1, 4)
		checkCandidates(t, x, list(tok(kind, "A", 0), n), 100, 1, 4)
		checkCandidates(t, x, list(tok(kind, "A", 0), n), 0, 1, 2, 3, 4)
		checkCandidates(t, x, list(n), 101)
		checkCandidates(t, x, list(n, word("B"), n, word("C")), 100, 2, 3)
		checkCandidates(t, x, list(word("b"), n), 50, 2, 3)
		checkCandidates(t, x, list(word("b"), n), 51)
		checkCandidates(t, x, list(word("a")), 1)
		checkRemove(t, x, 1, true, 3)
		checkRemove(t, x, 2, true, 2)
		checkCandidates(t, x, list(word("b"), n, word("c")), 1, 3)
	}
}

// P15.2: words whose texts no text has.
func TestUnusualWords(t *testing.T) {
	x := index.New()
	lists := [][]api.Token{list(word("")), list(word(""), word("")), nil, list(word("a"), word("bc")), list(word("ab"), word("c")), list(word("a b"), word("c")), list(word("a\x00"), word("\xff"))}
	for i, l := range lists {
		checkAdd(t, x, i, l, true, i+1)
	}
	checkCandidates(t, x, list(word("")), 100, 0)
	checkCandidates(t, x, list(word("")), 50, 0, 1)
	checkCandidates(t, x, list(word("")), 1, 0, 1)
	checkCandidates(t, x, nil, 1, 2)
	for i, l := range lists[3:] {
		checkCandidates(t, x, l, 100, i+3)
	}
	checkLast(t, x, list(word("a"), word("b"), word("c")), 33, 3, 4, 5)
}

// P15.2: pairs that differ in where the first word ends, whatever bytes stand
// there, are not the same.
func TestPairsOfLikeWords(t *testing.T) {
	joints := []string{"", ", ", "\x00\x00"}
	for b := range 256 {
		joints = append(joints, string([]byte{byte(b)}))
	}
	for _, s := range joints {
		x := index.New()
		checkAdd(t, x, 1, list(word("a"+s+"b"), word("c"), word("w"), word("x"), word("y"), word("z")), true, 1)
		checkLast(t, x, list(word("a"), word("b"+s+"c"), word("z"), word("y"), word("x"), word("w")), 33, 1)
	}
}
