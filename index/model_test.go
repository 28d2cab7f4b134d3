package index_test

import (
	"math"
	"math/rand/v2"
	"slices"
	"testing"

	"bitext/api"
	"bitext/index"
	"bitext/score"
	"bitext/shingle"
)

// The tests of this file set an index against a plain list of what is stored,
// every element of which is looked at for every list that is asked about.

// element is a list that is stored under a number.
type element struct {
	id     int
	tokens []api.Token
}

// model holds what is stored, in ascending order of the numbers.
type model []element

// place returns where the list with this number stands, or would stand, and
// whether it is there.
func (m model) place(id int) (int, bool) {
	for i, e := range m {
		if e.id >= id {
			return i, e.id == id
		}
	}
	return len(m), false
}

func (m *model) add(id int, l []api.Token) bool {
	i, stored := m.place(id)
	if stored || len(*m) == 1024 {
		return false
	}
	*m = slices.Insert(*m, i, element{id, slices.Clone(l)})
	return true
}

func (m *model) remove(id int) bool {
	i, stored := m.place(id)
	if stored {
		*m = slices.Delete(*m, i, i+1)
	}
	return stored
}

// checkAll checks the candidates of l with some percentages, list by list, that
// no list is missed which has the percentage, and that a greater percentage has no
// more candidates.
func checkAll(t *testing.T, x *index.Index, m model, l []api.Token, percents []int) {
	t.Helper()
	bounds, totals, similar := make([]int, len(m)), make([]int, len(m)), make([]int, len(m))
	for i, e := range m {
		bounds[i], totals[i], similar[i] = shingle.Bound(l, e.tokens), score.Total(l, e.tokens), score.Percent(l, e.tokens)
	}
	var before []int
	for n, percent := range percents {
		got := x.Candidates(l, percent)
		var want []int
		for i, e := range m {
			if bounds[i] <= score.Allowed(totals[i], percent) {
				want = append(want, e.id)
			}
			if percent >= 1 && percent <= 100 && similar[i] >= percent && !slices.Contains(got, e.id) {
				t.Fatalf("Candidates(%v, %d) misses %v, which has %d", l, percent, e.tokens, similar[i])
			}
		}
		if !slices.Equal(got, want) {
			t.Fatalf("Candidates(%v, %d) = %d, not %d", l, percent, got, want)
		}
		for _, id := range got {
			if n > 0 && !slices.Contains(before, id) {
				t.Fatalf("Candidates(%v, %d) has %d, with %d it has not", l, percent, id, percents[n-1])
			}
		}
		before = got
	}
}

// somePercents and allPercents are percentages in ascending order.
var somePercents = []int{math.MinInt, -1, 0, 1, 33, 34, 50, 51, 67, 75, 99, 100, 101, math.MaxInt}

func allPercents() []int {
	var percents []int
	for percent := -2; percent < 104; percent++ {
		percents = append(percents, percent)
	}
	return percents
}

// every are tokens of every kind, and of none.
var every = list(
	word("a"), word("A"), word("b"), word(""), tok(api.Number, "1", 0), tok(api.Number, "a", 0), tok(api.Blank, " ", 0), tok(api.Sign, ".", 0), tok(api.Slot, "n", 0),
	open(1, "b"), open(2, "b"), open(1, "i"), shut(1, "b"), tok(api.Empty, "b", 1), tok(0, "a", 1), tok(api.Text, "a", 0), tok(api.Sign+1, "b", 2),
)

// all returns the lists of at most n of the given elements.
func all(n int, elements []api.Token) [][]api.Token {
	lists := [][]api.Token{nil}
	for from := 0; n > 0; n-- {
		to := len(lists)
		for _, l := range lists[from:to] {
			for _, x := range elements {
				lists = append(lists, append(slices.Clone(l), x))
			}
		}
		from = to
	}
	return lists
}

// P15.1 to P15.3: every short list is asked about in an index that holds all of
// them, under numbers that do not ascend.
func TestEveryTwoLists(t *testing.T) {
	for _, s := range []struct {
		most     int
		elements []api.Token
		percents []int
	}{
		{2, every, somePercents},
		{3, list(word("a"), word("B"), word("b"), of(" ")[0], open(1, "b"), tok(0, "a", 1)), somePercents},
		{4, list(word("a"), word("b"), word(""), word("c")), somePercents},
		{7, list(word("a"), word("b")), somePercents},
		{5, list(word("a"), of(".")[0]), allPercents()},
	} {
		x, m := index.New(), model{}
		for i, l := range all(s.most, s.elements) {
			id := (i%2*2 - 1) * i * 1e15
			checkAdd(t, x, id, l, true, i+1)
			m.add(id, l)
		}
		for _, e := range m {
			checkAll(t, x, m, e.tokens, s.percents)
		}
	}
}

// chooser chooses lists of tokens by a fixed seed.
type chooser struct{ *rand.Rand }

func newChooser(seed uint64) chooser { return chooser{rand.New(rand.NewPCG(15, seed))} }

// list returns fewer than n of the elements.
func (c chooser) list(n int, elements []api.Token) []api.Token {
	var l []api.Token
	for range c.IntN(n) {
		l = append(l, elements[c.IntN(len(elements))])
	}
	return l
}

// near returns a list that differs from l in some places.
func (c chooser) near(l, elements []api.Token) []api.Token {
	l = slices.Clone(l)
	for _, x := range c.list(4, elements) {
		i := c.IntN(len(l) + 1)
		if c.IntN(2) == 0 && i < len(l) {
			l = slices.Delete(l, i, i+1)
		} else {
			l = slices.Insert(l, i, x)
		}
	}
	if c.IntN(5) == 0 {
		c.Shuffle(len(l), func(i, j int) { l[i], l[j] = l[j], l[i] })
	}
	return l
}

// texts are tokens of which texts consist.
var texts = list(word("a"), word("A"), word("b"), word("c"), word("d"), of(" ")[0], of(".")[0])

// some returns a list like those in m, or another one.
func (c chooser) some(m model) []api.Token {
	elements := [][]api.Token{every, texts, texts[:2], texts[:4]}[c.IntN(4)]
	if len(m) > 0 && c.IntN(3) > 0 {
		return c.near(m[c.IntN(len(m))].tokens, elements)
	}
	return c.list(13, elements)
}

// P15.1 to P15.3: many calls of Add and Remove in any order. More numbers are tried
// than lists remain, so that about as many calls are refused as are not.
func TestManyCalls(t *testing.T) {
	var refused, done int
	for seed := range uint64(60) {
		c, x, m := newChooser(seed), index.New(), model{}
		numbers := 2 + c.IntN(40)
		for range 250 {
			id := c.IntN(numbers) - numbers/2
			if id > 5 {
				id = borderIDs[c.IntN(len(borderIDs))]
			}
			l := c.some(m)
			var got, want bool
			if c.IntN(2) == 0 {
				got, want = x.Add(id, l), m.add(id, l)
			} else {
				got, want = x.Remove(id), m.remove(id)
			}
			if got != want || x.Len() != len(m) {
				t.Fatalf("a call for %d returns %t, and %d lists are there, not %d", id, got, x.Len(), len(m))
			}
			if got {
				done++
			} else {
				refused++
			}
			percent := c.IntN(104) - 1
			checkAll(t, x, m, c.some(m), []int{percent - 1, percent, percent + 1 + c.IntN(20)})
		}
		checkAll(t, x, m, c.some(m), allPercents())
	}
	if done < 5000 || refused < 5000 {
		t.Errorf("%d calls were refused, %d were not", refused, done)
	}
}

// P15.1: many calls for an index that is full, or almost.
func TestManyCallsOfAFullIndex(t *testing.T) {
	c, x, m := newChooser(0), index.New(), model{}
	for m.add(len(m), c.some(m)) {
		e := m[len(m)-1]
		checkAdd(t, x, e.id, e.tokens, true, len(m))
	}
	full := 0
	for range 4000 {
		id := c.IntN(2 * api.MaxEntries)
		l := c.list(5, texts)
		if c.IntN(5) < 2 {
			want := m.remove(id)
			checkRemove(t, x, id, want, len(m))
		} else {
			want := m.add(id, l)
			checkAdd(t, x, id, l, want, len(m))
		}
		if len(m) == api.MaxEntries {
			full++
		}
	}
	if full < 1000 || full > 3000 {
		t.Errorf("the index was full after %d of 4000 calls", full)
	}
	for range 20 {
		checkAll(t, x, m, c.some(m), somePercents)
	}
}

// P15.3: neither the order of Add nor lists that were removed change the result.
func TestOrderAndRemovedLists(t *testing.T) {
	for seed := range uint64(40) {
		c, m := newChooser(1000+seed), model{}
		for range c.IntN(60) {
			m.add(c.IntN(100), c.some(m))
		}
		var indexes []*index.Index
		for range 3 {
			indexes = append(indexes, c.fill(t, m))
		}
		for range 15 {
			l := c.some(m)
			for _, percent := range []int{0, 1, c.IntN(102), c.IntN(102), 100, 101} {
				want := indexes[0].Candidates(l, percent)
				checkCandidates(t, indexes[1], l, percent, want...)
				checkCandidates(t, indexes[2], l, percent, want...)
			}
		}
		checkAll(t, indexes[1], m, c.some(m), allPercents())
	}
}

// fill returns an index of m to which the lists are added in any order, and from
// which other ones are removed in between.
func (c chooser) fill(t *testing.T, m model) *index.Index {
	t.Helper()
	x := index.New()
	for count, i := range c.Perm(len(m)) {
		id := m[i].id
		for range c.IntN(3) {
			checkAdd(t, x, id, c.some(m), true, count+1)
			checkAdd(t, x, 100+c.IntN(9), c.some(m), true, count+2)
			for other := range 9 {
				x.Remove(100 + other)
			}
			checkRemove(t, x, id, true, count)
		}
		checkAdd(t, x, id, m[i].tokens, true, count+1)
	}
	return x
}

// P15.2, P15.3: longer lists with every percentage.
func TestLongerLists(t *testing.T) {
	c, x, m := newChooser(2000), index.New(), model{}
	var alphabet []api.Token
	for i := range 26 {
		alphabet = append(alphabet, word(string(rune('a'+i))), word(string(rune('A'+i))), of(" ")[0])
	}
	alphabet = append(alphabet, every...)
	for id := range 300 {
		l := c.list(60, alphabet)
		if id > 50 {
			l = c.near(m[c.IntN(len(m))].tokens, alphabet)
		}
		m.add(id, l)
		checkAdd(t, x, id, l, true, id+1)
	}
	for range 30 {
		checkAll(t, x, m, c.near(m[c.IntN(len(m))].tokens, alphabet), allPercents())
	}
}

// R1: full indexes of long lists answer soon.
func TestLongLists(t *testing.T) {
	x := index.New()
	var text []api.Token
	for i := range api.MaxLength / 2 {
		text = append(text, word(string(rune('a'+i%26))), of(" ")[0])
	}
	for id := range api.MaxEntries {
		checkAdd(t, x, id, text[id:], true, id+1)
	}
	if got := x.Candidates(text, 0); len(got) != api.MaxEntries {
		t.Errorf("%d lists have 0 percent", len(got))
	}
	for _, percent := range []int{1, 50, 75, 99} {
		var want []int
		for id := range api.MaxEntries {
			if shingle.Bound(text, text[id:]) <= score.Allowed(score.Total(text, text), percent) {
				want = append(want, id)
			}
		}
		checkCandidates(t, x, text, percent, want...)
	}
	for id := range api.MaxEntries {
		checkRemove(t, x, id, true, api.MaxEntries-1-id)
	}
	checkCandidates(t, x, text, 0)
}
